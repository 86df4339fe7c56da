/- What the laws ask of package dev's functions. Rep: how its file lies in memory, F its blocks. -/
import Derived.Test.YtoibeajcepbpjaaWDevS
namespace Go.Proofs.Ytoibeajcepbpjaa
open Go.RowKit

/-- the numbers of a file, as far as the laws come -/
structure Dv.Fit (s : Dv.St) : Prop where
  len : s.b.length ≤ 2097152
  sound : s.safe ≤ s.b.length
  most : s.most ≤ 1048576
  after : s.after < 9223372036854775808
  keep : s.keep < 9223372036854775808
  done : s.done < 4611686018425290752
  told : s.told ≤ 9223372036852678655

theorem Dv.Fit.fits {s : Dv.St} (h : Dv.Fit s) : Dv.Fits s := ⟨h.len, h.sound, h.after, h.keep, by have := h.done; omega⟩

/-- how a file lies: the world, what lies below which block is none of its own, its address, how it stands, its blocks -/
abbrev DRep := World → Nat → Addr → Dv.St → (Nat → Prop) → Prop

/-- what a call leaves: its answer, the file, and nothing else touched but its own blocks -/
def DevPost (Rep : DRep) (w : World) (B : Nat) (a : Addr) (F : Nat → Prop) (r : Nat × Dv.St) (e : Ending) (w' : World) : Prop :=
  e = .returned (.int .i64 (r.1 : Nat)) ∧ ∃ F', Rep w' B a r.2 F' ∧ Aside F w w' ∧ ∀ k, F' k → F k ∨ w.heap.size ≤ k

/-- a list that is told: the caller's own -/
def Told (w w' : World) (F : Nat → Prop) (q : Option Addr) (L : List UInt8) : Prop :=
  At w' q L ∧ (L ≠ [] → ∃ g o, q = some ⟨g, o, none⟩ ∧ w.heap.size ≤ g ∧ Free w' g o L ∧ ¬ F g)

/-- what package dev's functions answer, in every world of which I holds -/
structure DevOk (I : Nat → World → Prop) (Rep : DRep) : Prop where
  on : ∀ {B : Nat} {w w' : World}, I B w → Below B w w' → I B w'
  more : ∀ {B B' : Nat} {w : World}, I B w → B ≤ B' → I B' w
  lies : ∀ {w B a s F}, Rep w B a s F → ∀ k, F k → B ≤ k ∧ k < w.heap.size
  aside : ∀ {w w' B a s F G}, Rep w B a s F → Aside G w w' → (∀ k, F k → ¬ G k) → Rep w' B a s F
  newBad : ∀ (q : Int) (B : Nat) (w : World), q < 0 ∨ 1048576 < q → I B w → B ≤ w.heap.size → Calls Try.prog 7 #[.int .i64 q] w fun e w' => e = .returned (.tuple #[.pointer none, .int .i64 1]) ∧ Below w.heap.size w w'
  newOk : ∀ (q B : Nat) (w : World), q ≤ 1048576 → I B w → B ≤ w.heap.size → Calls Try.prog 7 #[.int .i64 q] w fun e w' => ∃ a F, e = .returned (.tuple #[.pointer (some a), .int .i64 0]) ∧ Rep w' B a (Dv.new q) F ∧ (∀ k, F k → w.heap.size ≤ k) ∧ Below w.heap.size w w'
  write : ∀ {w B a s F} (p : Option Addr) (c : Nat) (l : List UInt8), l.length ≤ 140737488351232 → l.length ≤ c → At w p l → (l ≠ [] → ∀ b o, p = some ⟨b, o, none⟩ → ¬ F b) → Rep w B a s F → Dv.Fit s → I B w → B ≤ w.heap.size → Calls Try.prog 18 #[.pointer (some a), .slice p l.length c] w (DevPost Rep w B a F (Dv.write s l))
  sync : ∀ {w B a s F}, Rep w B a s F → Dv.Fit s → I B w → B ≤ w.heap.size → Calls Try.prog 19 #[.pointer (some a)] w (DevPost Rep w B a F (Dv.sync s))
  cut : ∀ {w B a s F} (n : Int), -9223372036854775808 ≤ n → n ≤ 9223372036854775807 → Rep w B a s F → Dv.Fit s → I B w → B ≤ w.heap.size → Calls Try.prog 20 #[.pointer (some a), .int .i64 n] w (DevPost Rep w B a F (Dv.cut s n))
  read : ∀ {w B a s F} (n m : Int), -9223372036854775808 ≤ n → n ≤ 9223372036854775807 → -9223372036854775808 ≤ m → m ≤ 9223372036854775807 → Rep w B a s F → Dv.Fit s → I B w → B ≤ w.heap.size →
    Calls Try.prog 31 #[.pointer (some a), .int .i64 n, .int .i64 m] w fun e w' => ∃ q cap F', e = .returned (.tuple #[.slice q (Dv.read s n m).1.length cap, .int .i64 ((Dv.read s n m).2.1 : Nat)]) ∧ (Dv.read s n m).1.length ≤ cap ∧ Told w w' F' q (Dv.read s n m).1 ∧ Rep w' B a (Dv.read s n m).2.2 F' ∧ Aside F w w' ∧ ∀ k, F' k → F k ∨ w.heap.size ≤ k
  fail : ∀ {w B a s F} (n m : Int), -9223372036854775808 ≤ n → n ≤ 9223372036854775807 → -9223372036854775808 ≤ m → m ≤ 9223372036854775807 → Rep w B a s F → Dv.Fit s → I B w → B ≤ w.heap.size → Calls Try.prog 21 #[.pointer (some a), .int .i64 n, .int .i64 m] w (DevPost Rep w B a F (Dv.fail s n m))
  start : ∀ {w B a s F}, Rep w B a s F → Dv.Fit s → I B w → B ≤ w.heap.size → Calls Try.prog 22 #[.pointer (some a)] w (DevPost Rep w B a F (Dv.start s))
  damage : ∀ {w B a s F} (n : Int) (v : UInt8), -9223372036854775808 ≤ n → n ≤ 9223372036854775807 → Rep w B a s F → Dv.Fit s → I B w → B ≤ w.heap.size → Calls Try.prog 23 #[.pointer (some a), .int .i64 n, .int .u8 (v.toNat : Int)] w (DevPost Rep w B a F (Dv.damage s n v))
  tail : ∀ {w B a s F} (p : Option Addr) (c : Nat) (l : List UInt8), l.length ≤ 140737488351232 → l.length ≤ c → At w p l → (l ≠ [] → ∀ b o, p = some ⟨b, o, none⟩ → ¬ F b) → Rep w B a s F → Dv.Fit s → I B w → B ≤ w.heap.size → Calls Try.prog 25 #[.pointer (some a), .slice p l.length c] w (DevPost Rep w B a F (Dv.tail s l))
  up : ∀ {w B a s F}, Rep w B a s F → Dv.Fit s → I B w → B ≤ w.heap.size → Calls Try.prog 17 #[.pointer (some a)] w fun e w' => e = .returned (.bool (!s.down)) ∧ Below w.heap.size w w'
  len : ∀ {w B a s F}, Rep w B a s F → Dv.Fit s → I B w → B ≤ w.heap.size → Calls Try.prog 26 #[.pointer (some a)] w fun e w' => e = .returned (.int .i64 (s.b.length : Nat)) ∧ Below w.heap.size w w'
  quota : ∀ {w B a s F}, Rep w B a s F → Dv.Fit s → I B w → B ≤ w.heap.size → Calls Try.prog 8 #[.pointer (some a)] w fun e w' => e = .returned (.int .i64 (s.most : Nat)) ∧ Below w.heap.size w w'
  synced : ∀ {w B a s F}, Rep w B a s F → Dv.Fit s → I B w → B ≤ w.heap.size → Calls Try.prog 16 #[.pointer (some a)] w fun e w' => e = .returned (.int .i64 (s.safe : Nat)) ∧ Below w.heap.size w w'
  counted : ∀ {w B a s F}, Rep w B a s F → Dv.Fit s → I B w → B ≤ w.heap.size → Calls Try.prog 45 #[.pointer (some a)] w fun e w' => e = .returned (.int .i64 (s.told : Nat)) ∧ Below w.heap.size w w'
  written : ∀ {w B a s F}, Rep w B a s F → Dv.Fit s → I B w → B ≤ w.heap.size → Calls Try.prog 29 #[.pointer (some a)] w fun e w' => e = .returned (.int .i64 (s.done : Nat)) ∧ Below w.heap.size w w'
  all : ∀ {w B a s F}, Rep w B a s F → Dv.Fit s → I B w → B ≤ w.heap.size → Calls Try.prog 15 #[.pointer (some a)] w fun e w' => ∃ q cap, e = .returned (.slice q s.b.length cap) ∧ s.b.length ≤ cap ∧ Told w w' F q s.b ∧ Below w.heap.size w w'
  clone : ∀ {w B a s F}, Rep w B a s F → Dv.Fit s → I B w → B ≤ w.heap.size → Calls Try.prog 11 #[.pointer (some a)] w fun e w' => ∃ a' F', e = .returned (.pointer (some a')) ∧ Rep w' B a' s F' ∧ (∀ k, F' k → w.heap.size ≤ k) ∧ Below w.heap.size w w'

section
variable {I : Nat → World → Prop} {Rep : DRep}

theorem DevOk.rep_below (K : DevOk I Rep) {w w' : World} {B : Nat} {a : Addr} {s : Dv.St} {F : Nat → Prop} (h : Rep w B a s F) (hb : Below w.heap.size w w') : Rep w' B a s F :=
  K.aside h (aside_new hb (fun _ => False)) (fun _ _ h => h)

/-- one file of package dev among things that are none of it: B what was there before all -/
structure One (Rep : DRep) (B : Nat) (a : Addr) (w0 w : World) (s : Dv.St) (F : Nat → Prop) : Prop where
  rep : Rep w B a s F
  world : Below B w0 w
  room : B ≤ w.heap.size

theorem One.on (K : DevOk I Rep) {B : Nat} {a : Addr} {w0 w w' : World} {s : Dv.St} {F : Nat → Prop} (h : One Rep B a w0 w s F) (hb : Below w.heap.size w w') : One Rep B a w0 w' s F :=
  ⟨K.rep_below h.rep hb, h.world.trans (hb.mono h.room), Nat.le_trans h.room hb.size⟩
theorem One.step (K : DevOk I Rep) {B : Nat} {a : Addr} {w0 w w' : World} {s s' : Dv.St} {F F' : Nat → Prop} (h : One Rep B a w0 w s F) (hr : Rep w' B a s' F') (ha : Aside F w w') : One Rep B a w0 w' s' F' :=
  ⟨hr, h.world.trans (ha.below h.room (fun k hk hf => by have := (K.lies h.rep k hf).1; omega)), Nat.le_trans h.room ha.size⟩
end
end Go.Proofs.Ytoibeajcepbpjaa
