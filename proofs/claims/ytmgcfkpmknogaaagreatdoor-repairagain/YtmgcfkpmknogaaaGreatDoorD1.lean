/- Dev, WDevR, WDeed, WDevM, WDevW, WDevT, WDevC: put together. -/
import Derived.Test.YtmgcfkpmknogaaaGreatDoorB01
import Derived.Deep.RegionWith
import Derived.Deep.RegionLaw
import Derived.Deep.AppendLies
import Derived.BigQuiet

/- Plain facts on a file whose power may fail, without any program: what each call makes of it, and what it keeps (P5.9). -/
namespace Go.Proofs.YtmgcfkpmknogaaaGreatDoor.Dv

/-- how a file stands -/
structure St where
  b : List UInt8
  most : Nat
  safe : Nat
  down : Bool
  bound : Bool
  after : Nat
  keep : Nat
  told : Nat
  done : Nat

def new (quota : Nat) : St := ⟨[], quota, 0, false, false, 0, 0, 0, 0⟩

/-- may a deed be done now? -/
def may (s : St) : Bool := !s.bound || decide (0 < s.after)
/-- it is done -/
def did (s : St) : St := { s with after := if s.bound then s.after - 1 else s.after, done := s.done + 1 }
/-- power fails in its place -/
def fails (s : St) : St := { s with b := if s.keep < s.b.length - s.safe then s.b.take (s.safe + s.keep) else s.b, bound := false, down := true }

/-- bytes laid behind the end, one by one; whether power failed -/
def lay : St → List UInt8 → Bool × St
  | s, [] => (false, s)
  | s, c :: r => if may s then lay { did s with b := s.b ++ [c] } r else (true, fails s)

def write (s : St) (l : List UInt8) : Nat × St :=
  if s.down then (50, s) else if l ≠ [] ∧ s.most < s.b.length + l.length then (52, s) else
    let r := lay s l
    (if r.1 then 51 else 0, r.2)
def cut (s : St) (n : Int) : Nat × St :=
  if s.down then (50, s) else if n < 0 ∨ (s.b.length : Int) < n then (7, s) else if may s then (0, { did s with b := s.b.take n.toNat, safe := if n.toNat < s.safe then n.toNat else s.safe }) else (51, fails s)
def read (s : St) (a n : Int) : List UInt8 × Nat × St :=
  if a < 0 ∨ (s.b.length : Int) < a ∨ n < 0 then ([], 7, s) else
    let l := (s.b.drop a.toNat).take n.toNat
    (l, 0, { s with told := s.told + l.length })
def fail (s : St) (after keep : Int) : Nat × St := if s.down then (50, s) else if after < 0 ∨ keep < 0 then (1, s) else (0, { s with bound := true, after := after.toNat, keep := keep.toNat })
def start (s : St) : Nat × St := if s.down then (0, { s with down := false }) else (6, s)
def tail (s : St) (l : List UInt8) : Nat × St := if 2097152 < s.b.length + l.length then (2, s) else (0, { s with b := s.b ++ l, safe := (s.b ++ l).length })

/-- what holds of every file -/
def Sound (s : St) : Prop := s.safe ≤ s.b.length

/-- what a call that neither cuts nor damages keeps: what is left is a beginning of what there was and was laid behind it, at least what was synced -/
def Keeps (s t : St) (all : List UInt8) : Prop := s.b.take s.safe <+: t.b ∧ t.b <+: all ∧ Sound t ∧ t.most = s.most

/-- what the law asks behind a call: e the error, all what there may be at most -/
structure Held (s t : St) (e : Nat) (all : List UInt8) : Prop where
  keeps : Keeps s t all
  room : s.b.length ≤ s.most → t.b.length ≤ t.most
  power : (e = 51) ↔ (s.down = false ∧ t.down = true)
  space : e = 52 → t.b = s.b

/-- where power is not bound to fail, all is laid -/
theorem lay_free : ∀ (l : List UInt8) (s : St), s.bound = false → lay s l = (false, { s with b := s.b ++ l, done := s.done + l.length })
  | [], s, _ => by simp [lay]
  | c :: r, s, h => by
    rw [lay, if_pos (by simp [may, h]), lay_free r _ (by simp [did, h])]
    simp only [did, h, Bool.false_eq_true, if_false, List.append_assoc, List.cons_append, List.nil_append, List.length_cons]
    congr 2
    omega
end Go.Proofs.YtmgcfkpmknogaaaGreatDoor.Dv

/- The document's own file: how it lies in memory; the walks of its small calls. -/
namespace Go.Proofs.YtmgcfkpmknogaaaGreatDoor
open Go.RowKit

def devCells (v : Value) (s : Dv.St) : Array Value := #[v, .int .i64 s.most, .int .i64 s.safe, .bool s.down, .bool s.bound, .int .i64 s.after, .int .i64 s.keep, .int .i64 s.told, .int .i64 s.done]

/-- the document's file lies in block g; its bytes are v's -/
structure RDev (w : World) (B g : Nat) (v : Value) (s : Dv.St) : Prop where
  lies : w.heap[g]? = some (.cells (devCells v s) 104)
  has : Has w B v s.b
  base : B ≤ g
  apart : v.ownBlock ≠ some g

theorem RDev.lt {w : World} {B g : Nat} {v : Value} {s : Dv.St} (h : RDev w B g v s) : g < w.heap.size := (Array.getElem?_eq_some_iff.1 h.lies).1
theorem RDev.cell {w : World} {B g : Nat} {v : Value} {s : Dv.St} (h : RDev w B g v s) (i : Nat) : w.cell? ⟨g, i, none⟩ = (devCells v s)[i]? := by
  unfold World.cell?
  rw [h.lies]
  rfl
theorem RDev.thawed {w : World} {B g : Nat} {v : Value} {s : Dv.St} (h : RDev w B g v s) (i : Nat) : w.frozen? ⟨g, i, none⟩ = false := by
  simp [World.frozen?, h.lies]
/-- a number or a mark of it is written -/
theorem RDev.put {w : World} {B g : Nat} {v : Value} {s s' : Dv.St} (h : RDev w B g v s) (i : Nat) (u : Value) (he : devCells v s' = (devCells v s).setIfInBounds i u) (hb : s'.b = s.b) : RDev (w.setCell ⟨g, i, none⟩ u) B g v s' := by
  have ha : Aside (· = g) w (w.setCell ⟨g, i, none⟩ u) := (Aside.refl (· = g) w).setCell (p := ⟨g, i, none⟩) (.inl rfl) u
  refine ⟨?_, ?_, h.base, h.apart⟩
  · simp only [World.setCell, Array.getElem?_modify, h.lies, if_true, Option.map_some]
    rw [if_neg (by simp), he]
  · rw [hb]
    exact h.has.aside ha (fun k hk hc => h.apart (by rw [hk, hc]))
theorem RDev.aside {w w' : World} {B g : Nat} {v : Value} {s : Dv.St} {F : Nat → Prop} (h : RDev w B g v s) (ha : Aside F w w') (hg : ¬ F g) (hv : ∀ k, v.ownBlock = some k → ¬ F k) : RDev w' B g v s :=
  ⟨by rw [ha.block g h.lt hg]; exact h.lies, h.has.aside ha hv, h.base, h.apart⟩

section
variable {B g : Nat} {v : Value} {s : Dv.St} {w : World}

/-- what a call of the file's leaves: its answer, the file, and nothing else touched but its own blocks -/
def RPost (w : World) (B g : Nat) (v : Value) (r : Nat × Dv.St) (e : Ending) (w' : World) : Prop :=
  e = .returned (.int .i64 (r.1 : Nat)) ∧ ∃ v', RDev w' B g v' r.2 ∧ Aside (fun k => k = g ∨ v.ownBlock = some k) w w' ∧ (v' = v ∨ ∀ k, v'.ownBlock = some k → v.ownBlock = some k ∨ w.heap.size ≤ k)

end
end Go.Proofs.YtmgcfkpmknogaaaGreatDoor

/- The document's own file: New, All, deed. -/
namespace Go.Proofs.YtmgcfkpmknogaaaGreatDoor
open Go.RowKit

theorem RDev.drewN {w : World} {B g : Nat} {v : Value} {s : Dv.St} (h : RDev w B g v s) (n : Nat) : RDev (w.drewN n) B g v s := ⟨h.lies, h.has, h.base, h.apart⟩
theorem RDev.drew {w : World} {B g : Nat} {v : Value} {s : Dv.St} (h : RDev w B g v s) : RDev w.drew B g v s := ⟨h.lies, h.has, h.base, h.apart⟩

section
variable {B g : Nat} {v : Value} {s : Dv.St} {w : World}

end
end Go.Proofs.YtmgcfkpmknogaaaGreatDoor

/- The document's own file: New, All, Damage, Read. -/
namespace Go.Proofs.YtmgcfkpmknogaaaGreatDoor
open Go.RowKit

theorem refNew_ok (q : Nat) (h : q ≤ 1048576) (w : World) : Calls Tryz.prog 50 #[.int .i64 q] w fun e w' => e = .returned (.tuple #[.pointer (some ⟨w.heap.size, 0, none⟩), .int .i64 0]) ∧ RDev w' w.heap.size w.heap.size (.slice none 0 0) (Dv.new q) ∧ Below w.heap.size w w' := by
  have HR : Hid (RDev (w.alloc (.cells (devCells (.slice none 0 0) (Dv.new q)) 104)) w.heap.size w.heap.size (.slice none 0 0) (Dv.new q)) :=
    ⟨heap_new w _, has_nil _ _, Nat.le_refl _, by simp [Value.ownBlock]⟩
  have HB : Hid (Below w.heap.size w (w.alloc (.cells (devCells (.slice none 0 0) (Dv.new q)) 104))) := (Below.refl _ _).alloc (Nat.le_refl _) _
  have h1 : (q : Int) ≤ 1048576 := by omega
  go_enter Tryz.func50, Tryz.ntmps50
  go_wp2
  go_ret2
  exact ⟨rfl, HR.out, HB.out⟩

theorem Has.set {w : World} {B g cap : Nat} {l : List UInt8} (h : Has w B (.slice (some ⟨g, 0, none⟩) l.length cap) l) (i : Nat) (c : UInt8) : Has (w.setCell ⟨g, i, none⟩ (.int .u8 (c.toNat : Int))) B (.slice (some ⟨g, 0, none⟩) l.length cap) (l.set i c) := by
  have el : (l.set i c).length = l.length := List.length_set
  unfold Has World.ownsRow
  rw [el]
  refine ⟨by rw [cellsOf_length, el, Nat.mul_one], ?_⟩
  rcases h.2 with ⟨h1, _⟩ | ⟨g', cap', cur, h1, h2, h3, h4, h5, h6, h7⟩
  · cases h1
  · cases h1
    refine .inr ⟨g, cap, cur.setIfInBounds i (.int .u8 (c.toNat : Int)), rfl, h2, ?_, h4, h5, by simpa using h6, ?_⟩
    · simp only [World.setCell, Array.getElem?_modify, h3, if_true, Option.map_some]
      rw [if_neg (by simp)]
    · rw [Array.toList_setIfInBounds, List.take_set, h7]
      simp [cellsOf, List.map_set]

section
variable {B g : Nat} {v : Value} {s : Dv.St} {w : World}

end
end Go.Proofs.YtmgcfkpmknogaaaGreatDoor

/- The document's own file: Tail, Read, Cut, Write. -/
namespace Go.Proofs.YtmgcfkpmknogaaaGreatDoor
open Go.RowKit

theorem aside_grown {w w' : World} {row : Option Nat} (hg : w.grownBy w' row) : Aside (fun k => row = some k) w w' :=
  ⟨hg.os, hg.tape, hg.output, hg.size, fun k hk hf => hg.block k hk (fun e => hf e.symm)⟩

/-- append of one byte, in a region that draws -/
theorem step_push {B : Nat} {v : Value} {xs : List UInt8} {w : World} (hown : Has w B v xs) (c : UInt8) (hlen : xs.length + 1 ≤ 140737488355328) (hB : B ≤ w.heap.size) (ad : Nat)
    (hc : w.cell? ⟨ad, 0, none⟩ = some (.int .u8 (c.toNat : Int)))
    {ops : Array Oper} {o : Oper} {a : Act} {K : Act → World → Prop} {Q : Exit → Act → World → Prop} {E : Prop} (s x : Operand)
    (hg : o.guard = none) (hop : o.op = Op.call { callee := Callee.builtin Builtin.append, args := #[s, x], argTypes := #[22, 22] })
    (hs : a.eval s = v) (hx : a.eval x = .slice (some ⟨ad, 0, none⟩) 1 1)
    (hK : ∀ g cap W, Has W B (.slice (some ⟨g, 0, none⟩) (xs.length + 1) cap) (xs ++ [c]) → Aside (fun k => v.ownBlock = some k) w W → (v.ownBlock = some g ∨ w.heap.size ≤ g) → K (a.put o.dst (.slice (some ⟨g, 0, none⟩) (xs.length + 1) cap)) W) :
    if Region.wanted o (yielded ops a.tmps) = true then Oper.wp Tryz.prog o a w K Q else E := by
  obtain ⟨i, hi, hz, hsz, hby⟩ := info_parts info8
  refine step_append_lies w hg s x 22 hop B 5 i (.int .u8 0) 1 1 Tryz.underlying22 hi hz hsz hby rfl (by decide) v xs.length (cellsOf xs) hs hown ⟨ad, 0, none⟩ 1 1 (cellsOf [c]) hx rfl ?_ ?_ (by decide) (by unfold maxLen; omega) (by omega) hB w.heap.size rfl ?_
  · intro j u hj
    have hj0 : j = 0 := by
      have := (List.getElem?_eq_some_iff.1 hj).1
      simp [cellsOf] at this
      exact this
    subst hj0
    simp [cellsOf] at hj
    subst hj
    rw [Lib.add_plain]
    exact hc
  · intro u hu
    obtain ⟨_, _, rfl⟩ := List.mem_map.1 hu
    rfl
  · intro g cap W hm hgr hgb _
    rw [← cellsOf_append] at hm
    refine hK g cap W ?_ (aside_grown hgr) ?_
    · unfold Has
      rw [List.length_append]
      exact hm
    · rcases hgb with h | h
      · exact .inl h
      · exact .inr (by omega)

/-- what lies about the file when a byte has been put behind its bytes, and the file's field is still the old one -/
theorem RDev.push {w W : World} {B g g2 cap : Nat} {v : Value} {s : Dv.St} {l : List UInt8} (h : RDev w B g v s) (ha : Aside (fun k => v.ownBlock = some k) w W) (hu : Has W B (.slice (some ⟨g2, 0, none⟩) l.length cap) l) (hg2 : v.ownBlock = some g2 ∨ w.heap.size ≤ g2) :
    RDev (W.setCell ⟨g, 0, none⟩ (.slice (some ⟨g2, 0, none⟩) l.length cap)) B g (.slice (some ⟨g2, 0, none⟩) l.length cap) { s with b := l } ∧ W.cell? ⟨g, 0, none⟩ = some v ∧ W.frozen? ⟨g, 0, none⟩ = false := by
  have hlt := h.lt
  have hl : W.heap[g]? = some (.cells (devCells v s) 104) := by rw [ha.block g hlt h.apart]; exact h.lies
  have hne : g2 ≠ g := by
    rcases hg2 with h1 | h1
    · intro hc; exact h.apart (by rw [← hc]; exact h1)
    · omega
  have ha2 : Aside (· = g) W (W.setCell ⟨g, 0, none⟩ (.slice (some ⟨g2, 0, none⟩) l.length cap)) := (Aside.refl (· = g) W).setCell (p := ⟨g, 0, none⟩) (.inl rfl) _
  refine ⟨⟨?_, hu.aside ha2 (fun k hk hc => ?_), h.base, ?_⟩, ?_, ?_⟩
  · simp only [World.setCell, Array.getElem?_modify, hl, if_true, Option.map_some]
    rw [if_neg (by simp)]
    rfl
  · simp only [Value.ownBlock, Option.some.injEq] at hk
    exact hne (hk.trans hc)
  · simp only [Value.ownBlock, ne_eq, Option.some.injEq]
    exact hne
  · rw [ha.cell (p := ⟨g, 0, none⟩) hlt h.apart]; exact h.cell 0
  · rw [ha.frozen (p := ⟨g, 0, none⟩) hlt h.apart]; exact h.thawed 0
end Go.Proofs.YtmgcfkpmknogaaaGreatDoor

/- The document's own file: Tail. -/
namespace Go.Proofs.YtmgcfkpmknogaaaGreatDoor
open Go.RowKit

section
variable {B g : Nat} {v : Value} {s : Dv.St} {w : World}

/-- while bytes are put behind the end -/
def Putting5 (w : World) (B g : Nat) (v : Value) (q : Option Addr) (n cap : Nat) (t : Dv.St) (wr : World) : Prop :=
  RDev wr B g (.slice q n cap) t ∧ n = t.b.length ∧ Aside (fun k => k = g ∨ v.ownBlock = some k) w wr ∧ ((Value.slice q n cap) = v ∨ ∀ k, (Value.slice q n cap).ownBlock = some k → v.ownBlock = some k ∨ w.heap.size ≤ k)

theorem Putting5.next {w wr W : World} {B g g2 n cap cap2 : Nat} {v : Value} {q : Option Addr} {t : Dv.St} {c : UInt8} (h : Putting5 w B g v q n cap t wr) {wa : World}
    (hu : Has W B (.slice (some ⟨g2, 0, none⟩) (t.b.length + 1) cap2) (t.b ++ [c])) (ha : Aside (fun k => (Value.slice q n cap).ownBlock = some k) wa W) (hg2 : (Value.slice q n cap).ownBlock = some g2 ∨ wa.heap.size ≤ g2) (he : ∃ o, wa.heap = wr.heap.push o) (ho : wa.os = wr.os) (htp : wa.tape = wr.tape) (hou : wa.output = wr.output) :
    Putting5 w B g v (some ⟨g2, 0, none⟩) (t.b.length + 1) cap2 { t with b := t.b ++ [c] } (W.setCell ⟨g, 0, none⟩ (.slice (some ⟨g2, 0, none⟩) (t.b.length + 1) cap2)) ∧ W.cell? ⟨g, 0, none⟩ = some (.slice q n cap) ∧ W.frozen? ⟨g, 0, none⟩ = false := by
  obtain ⟨h1, h2, h3, h4⟩ := h
  obtain ⟨ob, he⟩ := he
  have hsz : wa.heap.size = wr.heap.size + 1 := by rw [he, Array.size_push]
  have hwa : Aside (fun k => (Value.slice q n cap).ownBlock = some k) wr wa := ⟨ho, htp, hou, by omega, fun k hk _ => by rw [he, Array.getElem?_push, if_neg (by omega)]⟩
  have hrW := hwa.trans ha (fun _ _ h => h)
  have el : (t.b ++ [c]).length = t.b.length + 1 := by simp
  rw [← el] at hu ⊢
  obtain ⟨r1, r2, r3⟩ := h1.push hrW hu (by rcases hg2 with h | h; exact .inl h; exact .inr (by omega))
  refine ⟨⟨r1, rfl, ?_, .inr fun k hk => ?_⟩, r2, r3⟩
  · refine (h3.trans hrW ?_).setCell (.inl (.inl rfl)) _
    intro k hk hkb
    rcases h4 with h4 | h4
    · right; rw [← h4]; exact hkb
    · rcases h4 k hkb with h5 | h5
      · exact .inr h5
      · omega
  · simp only [Value.ownBlock, Option.some.injEq] at hk
    subst hk
    rcases hg2 with h5 | h5
    · rcases h4 with h4 | h4
      · left; rw [← h4]; exact h5
      · exact h4 _ h5
    · right
      have := h3.size
      omega

set_option maxHeartbeats 400000 in
theorem refTail (h : RDev w B g v s) (p : Option Addr) (c : Nat) (l : List UInt8) (hl : l.length ≤ 140737488351232) (hA : At w p l) (hp : l ≠ [] → ∀ b o, p = some ⟨b, o, none⟩ → b ≠ g ∧ v.ownBlock ≠ some b) (hb : s.b.length ≤ 2097152) (hB : B ≤ w.heap.size) :
    Calls Tryz.prog 52 #[.pointer (some ⟨g, 0, none⟩), .slice p l.length c] w (RPost w B g v (Dv.tail s l)) := by
  have c0 : w.cell? ⟨g, 0, none⟩ = some v := h.cell 0
  have HR := Lib.hid h
  obtain ⟨q, cap, hv, -, -⟩ := h.has.at
  subst hv
  by_cases hx : 2097152 < s.b.length + l.length
  · have HE : Hid (Dv.tail s l = (2, s)) := by show _ = _; unfold Dv.tail; rw [if_pos hx]
    have hx1 : (2097152 : Int) < (s.b.length : Int) + (l.length : Int) := by omega
    clear h hA hp hB
    go_enter Tryz.func52, Tryz.ntmps52
    go_wp2
    go_ret
    unfold RPost
    rw [HE.out]
    exact ⟨rfl, _, HR.out, Aside.refl _ _, .inl rfl⟩
  · have HE : Hid (Dv.tail s l = (0, { s with b := s.b ++ l, safe := (s.b ++ l).length })) := by show _ = _; unfold Dv.tail; rw [if_neg hx]
    have hx1 : (s.b.length : Int) + (l.length : Int) ≤ 2097152 := by omega
    have HA := Lib.hid hA
    have HP := Lib.hid hp
    have hg := h.lt
    have hbase := h.base
    clear h hA hp
    go_enter Tryz.func52, Tryz.ntmps52
    go_wp2
    go_loopw [5] (fun v5 wr => ∃ (i : Nat) (q' : Option Addr) (n cap' : Nat), i ≤ l.length ∧ v5 = .int .i64 i ∧ Hid (Putting5 w B g (.slice q s.b.length cap) q' n cap' { s with b := s.b ++ l.take i } wr)) (fun v5 _ => l.length - (intOf v5).toNat)
    case atStart => exact ⟨0, q, s.b.length, cap, by omega, rfl, by
      have e : { s with b := s.b ++ l.take 0 } = s := by cases s; simp
      rw [e]
      exact ⟨HR.out, rfl, Aside.refl _ _, .inl rfl⟩⟩
    case round =>
      obtain ⟨i, q', n, cap', hi, rfl, HK⟩ := hrel
      have hsz := HK.out.2.2.1.size
      have hcg : wr.cell? ⟨g, 0, none⟩ = some (.slice q' n cap') := HK.out.1.cell 0
      have HH := Lib.hid HK.out.1.has
      have hn := HK.out.2.1
      have hn2 : (s.b ++ l.take i).length = s.b.length + i := by rw [List.length_append, List.length_take]; omega
      simp only at hn HH
      by_cases hlt : i < l.length
      · obtain ⟨b, o, rfl, hbl, hc⟩ := at_some HA.out (by omega)
        have hbB := HP.out (fun hc => by rw [hc] at hlt; simp at hlt) b o rfl
        have hcw : wr.cell? ⟨b, o + i, none⟩ = some (.int .u8 (l[i].toNat : Int)) := by
          rw [HK.out.2.2.1.cell (p := ⟨b, o + i, none⟩) hbl (by
            rintro (h1 | h1)
            · exact hbB.1 h1
            · exact hbB.2 h1)]
          exact hc i hlt
        have HX : Hid (l.take (i + 1) = l.take i ++ [l[i]]) := List.take_succ_eq_append_getElem hlt
        have hi1 : (i : Int) < (l.length : Int) := by omega
        have hBr : B ≤ wr.heap.size := by omega
        have hgr : g < wr.heap.size := by omega
        clear hc
        obtain ⟨lv, hlv⟩ : ∃ lv, lv = l[i] := ⟨_, rfl⟩
        rw [← hlv] at hcw HX
        clear hlv
        obtain ⟨xs, hxs⟩ : ∃ xs, xs = s.b ++ l.take i := ⟨_, rfl⟩
        rw [← hxs] at HK HH hn hn2
        have HXS := Lib.hid hxs
        have HN := Lib.hid hn
        clear hxs hn
        have hxl : xs.length + 1 ≤ 140737488355328 := by omega
        have HN2 := Lib.hid hn2
        clear hn2
        go_wp2
        go_region_law (refine step_push (B := B) (v := .slice q' n cap') (xs := xs) (by exact HH.out.alloc _) lv hxl (by simp; omega) wr.heap.size (by exact World.cell?_alloc_new wr _ _ 0) (.tmp 25) (.tmp 30) (by rfl) (by rfl) (by rfl) (by rfl) ?_; intro g2 cap2 W2 hu ha hg2; obtain ⟨hP, hc0, hf0⟩ := HK.out.next hu ha hg2 ⟨_, rfl⟩ rfl rfl rfl; have HP2 := Lib.hid hP; clear hP hu ha hg2)
        all_goals
          go_wp2
          go_roundw
          case rel => exact ⟨i + 1, _, _, _, by omega, by go_num, by rw [HX.out, ← List.append_assoc, ← HXS.out]; exact HP2.out⟩
          case measure => simp [intOf]; omega
      · have hii : i = l.length := by omega
        have HT : Hid (s.b ++ l.take i = s.b ++ l) := by show _ = _; rw [hii, List.take_length]
        have hf := HK.out.1.thawed 2
        have hc2 : wr.cell? ⟨g, 2, none⟩ = some (.int .i64 s.safe) := HK.out.1.cell 2
        have hnl : n = s.b.length + l.length := by rw [hn, hn2, hii]
        have HR2 : Hid (RDev (wr.setCell ⟨g, 2, none⟩ (.int .i64 (n : Nat))) B g (.slice q' n cap') { s with b := s.b ++ l, safe := (s.b ++ l).length }) := by
          have := HK.out.1.put (s' := { s with b := s.b ++ l.take i, safe := n }) 2 (.int .i64 (n : Nat)) rfl rfl
          rw [hn, HT.out] at this
          rw [hn, HT.out]
          exact this
        have HAs := Lib.hid HK.out.2.2.1
        have HV := Lib.hid HK.out.2.2.2
        have hil : ¬ (i : Int) < (l.length : Int) := by omega
        clear HK HH hn hn2 hii hnl HT hlt
        go_wp2
        go_ret
        unfold RPost
        rw [HE.out]
        exact ⟨rfl, _, HR2.out, HAs.out.setCell (.inl (.inl rfl)) _, HV.out⟩
end
end Go.Proofs.YtmgcfkpmknogaaaGreatDoor

/- The document's own file: Read, Cut. -/
namespace Go.Proofs.YtmgcfkpmknogaaaGreatDoor
open Go.RowKit

theorem RDev.below {w w' : World} {B g : Nat} {v : Value} {s : Dv.St} (h : RDev w B g v s) (hb : Below w.heap.size w w') : RDev w' B g v s :=
  h.aside (F := fun _ => False) (aside_new hb _) (fun h => h) (fun _ _ h => h)

section
variable {B g : Nat} {v : Value} {s : Dv.St} {w : World}

end
end Go.Proofs.YtmgcfkpmknogaaaGreatDoor
