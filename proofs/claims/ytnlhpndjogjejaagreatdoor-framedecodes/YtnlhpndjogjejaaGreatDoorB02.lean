/- Var, WLenK, WStuffK, WReadK, WUnK, WRefC, WCrc, Leb, WFix6, Vt, VLies, Ty, TLies, WExact, VOwn: put together. -/
import Derived.Test.YtnlhpndjogjejaaGreatDoorB01
import Derived.WalkKit
import Derived.WalkSpells
import Derived.WalkLawsBesides
import Derived.Laws.BitsAllLaws
import Derived.Lib.Hide
import Derived.Lib.LaidTab
import Derived.Test.YtnlhpndjogjejaaGreatDoorRows
import Derived.Below
import Derived.BigQuiet
import Derived.Deep.RegionHeld3
import Derived.Deep.AppendLies

/- A variable that a closure captures, which holds a slice of bytes of the call's own: appending onto it. -/
namespace Go.Proofs.YtnlhpndjogjejaaGreatDoor
open Go.RowKit

theorem one_cell {w : World} {b : Nat} {v : Value} {T : TypeId} (h : w.heap[b]? = some (.cells #[v] T (0, 0))) : w.cell? ⟨b, 0, none⟩ = some v := by
  simp [World.cell?, h]
theorem one_free {w : World} {b : Nat} {v : Value} {T : TypeId} (h : w.heap[b]? = some (.cells #[v] T (0, 0))) : w.frozen? ⟨b, 0, none⟩ = false := by
  simp [World.frozen?, h]
theorem one_set {w : World} {b : Nat} {v : Value} {T : TypeId} (h : w.heap[b]? = some (.cells #[v] T (0, 0))) (u : Value) : (w.setCell ⟨b, 0, none⟩ u).heap[b]? = some (.cells #[u] T (0, 0)) := by
  simp [World.setCell, Array.getElem?_modify, h]
theorem one_lt {w : World} {b : Nat} {o : Obj} (h : w.heap[b]? = some o) : b < w.heap.size := (Array.getElem?_eq_some_iff.1 h).1

/-- block g is a variable that holds this slice of bytes, whose block is the call's own -/
structure Var (w : World) (B g s cap : Nat) (xs : List UInt8) : Prop where
  box : w.heap[g]? = some (.cells #[.slice (some ⟨s, 0, none⟩) xs.length cap] 22 (0, 0))
  mine : Mine w B s cap xs

theorem mine_block {w : World} {B s cap : Nat} {xs : List UInt8} (h : Mine w B s cap xs) : ∃ cur, w.heap[s]? = some (.cells cur 5 (0, 0)) := by
  rcases h.2 with ⟨h1, _⟩ | ⟨g, c, cur, h1, _, h2, _⟩
  · cases h1
  · cases h1; exact ⟨cur, h2⟩
theorem mine_ne {w : World} {B s cap g : Nat} {xs : List UInt8} {C : Array Value} {T : TypeId} (h : Mine w B s cap xs) (hg : w.heap[g]? = some (.cells C T (0, 0))) (hT : T ≠ 5) : s ≠ g := by
  rintro rfl
  obtain ⟨cur, hc⟩ := mine_block h
  rw [hc] at hg
  injection hg with h1
  injection h1 with h2 h3
  exact hT h3.symm
theorem mine_grown {w W : World} {B s cap b : Nat} {xs : List UInt8} (h : Mine w B s cap xs) (hg : w.grownBy W (some b)) (hne : s ≠ b) : Mine W B s cap xs :=
  World.ownsRow.kept h hg (.inr (fun hc => hne (Option.some.inj hc)))
theorem grown_set (W : World) (b : Nat) (v : Value) : W.grownBy (W.setCell ⟨b, 0, none⟩ v) (some b) :=
  ⟨rfl, rfl, rfl, by simp [World.setCell], fun i _ hne => Below.heap_setCell _ _ _ _ (fun hc => hne (by rw [hc]))⟩
theorem grown_trans {a b c : World} {row : Option Nat} (h : a.grownBy b row) (k : b.grownBy c row) : a.grownBy c row :=
  ⟨k.os.trans h.os, k.tape.trans h.tape, k.output.trans h.output, Nat.le_trans h.size k.size, fun i hi hne => (k.block i (Nat.lt_of_lt_of_le hi h.size) hne).trans (h.block i hi hne)⟩
theorem grown_refl (w : World) (row : Option Nat) : w.grownBy w row := ⟨rfl, rfl, rfl, Nat.le_refl _, fun _ _ _ => rfl⟩

theorem Var.ne {w : World} {B g s cap : Nat} {xs : List UInt8} (h : Var w B g s cap xs) : s ≠ g := mine_ne h.mine h.box (by decide)
/-- behind an append: the variable stands as it did -/
theorem Var.still {w W : World} {B g s cap : Nat} {xs : List UInt8} (h : Var w B g s cap xs) (hg : w.grownBy W (some s)) : W.heap[g]? = some (.cells #[.slice (some ⟨s, 0, none⟩) xs.length cap] 22 (0, 0)) :=
  (hg.block g (one_lt h.box) (fun hc => h.ne (Option.some.inj hc).symm)).trans h.box
/-- behind the store -/
theorem var_store {W : World} {B g s s' cap cap' n : Nat} {ys : List UInt8} (hb : W.heap[g]? = some (.cells #[.slice (some ⟨s, 0, none⟩) n cap] 22 (0, 0))) (hm : Mine W B s' cap' ys) :
    Var (W.setCell ⟨g, 0, none⟩ (.slice (some ⟨s', 0, none⟩) ys.length cap')) B g s' cap' ys :=
  ⟨one_set hb _, mine_grown hm (grown_set W g _) (mine_ne hm hb (by decide))⟩

theorem side_any (B s cap : Nat) (xs l : List UInt8) (p : Option Addr) (c : Nat) (w : World) (hown : Mine w B s cap xs) (h : At w p l) (hlen : xs.length + l.length ≤ 140737488355328) (hB : B ≤ w.heap.size) :
    ∃ (s' cap' : Nat) (W : World), AppRun Tryz.prog 22 22 22 (.slice (some ⟨s, 0, none⟩) xs.length cap) (.slice p l.length c) w (.slice (some ⟨s', 0, none⟩) (xs ++ l).length cap') W ∧ Mine W B s' cap' (xs ++ l) ∧ w.grownBy W (some s) := by
  obtain ⟨i, hi, hz, hsz, hby⟩ := info_parts info8
  cases p with
  | none =>
    have h0 : l = [] := by
      rcases h with rfl | ⟨b, o, hp, _, _⟩
      · rfl
      · cases hp
    subst h0
    have hr := run_append_room_src (P := Tryz.prog) w 22 22 22 5 i Tryz.underlying22 hi s 0 xs.length cap (.slice none 0 c) 0 [] (by rw [hsz]; exact src_bytes c h) (by have := hown.base.2.2; omega) (fun j hj => by simp at hj) (fun j hj => by simp at hj)
    refine ⟨s, cap, w, ⟨?_⟩, by rw [List.append_nil]; exact hown, grown_refl _ _⟩
    rw [List.append_nil]
    exact hr
  | some a =>
    have hcells : ∀ j u, (cellsOf l)[j]? = some u → w.cell? (a.add j) = some u := fun j u hj => by
      have hj2 : j < l.length := by
        have := (List.getElem?_eq_some_iff.1 hj).1
        simpa [cellsOf] using this
      rcases h with rfl | ⟨b, o, hp, _, hc⟩
      · simp at hj2
      · cases hp
        rw [cellsOf_get l j hj2] at hj
        cases hj
        rw [Lib.add_plain]
        exact hc j hj2
    obtain ⟨v', W, hr, hown', hgr, hnil⟩ := run_append_own (P := Tryz.prog) w B 22 22 5 i (.int .u8 0) 1 1 Tryz.underlying22 hi hz hsz hby rfl (by decide) _ xs.length (cellsOf xs) hown a l.length c (cellsOf l) (by rw [cellsOf_length, Nat.mul_one]) hcells
      (fun u hu => by obtain ⟨_, _, rfl⟩ := List.mem_map.1 hu; rfl) (by unfold maxLen; omega) (by omega) hB
    rw [← cellsOf_append, ← List.length_append] at hown'
    have hform : ∃ g' cap', v' = .slice (some ⟨g', 0, none⟩) (xs ++ l).length cap' := by
      rcases hown'.2 with ⟨h1, _⟩ | ⟨g', cap', _, h1, _⟩
      · have := (hnil.1 h1).1
        cases this
      · exact ⟨g', cap', h1⟩
    obtain ⟨g', cap', rfl⟩ := hform
    exact ⟨g', cap', W, ⟨hr⟩, hown', hgr⟩

/-- append of one byte, in the walk -/
theorem wp_push1 {B s cap : Nat} {xs : List UInt8} {w : World} (hown : Mine w B s cap xs) (c : UInt8) (hlen : xs.length + 1 ≤ 140737488355328) (hB : B ≤ w.heap.size)
    {z : Int} {ops : Array Oper} {rest : List Oper} {o : Oper} {a : Act} {Q : Exit → Act → World → Prop} {y x : Operand}
    (hz : z = (c.toNat : Int)) (ht : o.type = 22) (hg : o.guard = none) (hop : o.op = Op.call { callee := Callee.builtin Builtin.append, args := #[y, x], argTypes := #[22, 22] })
    (hs : a.eval y = .slice (some ⟨s, 0, none⟩) xs.length cap) {ad : Nat} (hx : a.eval x = .slice (some ⟨ad, 0, none⟩) 1 1) (had : ad = w.heap.size)
    (hK : ∀ ys s' cap' W, Hid (ys = xs ++ [c]) → Mine W B s' cap' ys → w.grownBy W (some s) → wpList Tryz.prog ops Q rest (a.put o.dst (.slice (some ⟨s', 0, none⟩) ys.length cap')) W) :
    wpList Tryz.prog ops Q (o :: rest) a (w.alloc (.cells #[.int .u8 z] 5)) := by
  subst had
  have hat : At (w.alloc (.cells #[.int .u8 z] 5)) (some ⟨w.heap.size, 0, none⟩) [c] := by
    refine .inr ⟨_, _, rfl, by simp, fun j hj => ?_⟩
    have hj0 : j = 0 := by simp at hj; omega
    subst hj0
    rw [World.cell?_alloc_new, hz]
    rfl
  have hg0 := World.grownBy_alloc w (.cells #[.int .u8 z] 5) (some s)
  obtain ⟨s', cap', W, hr, hm, hgr⟩ := side_any B s cap xs [c] (some ⟨w.heap.size, 0, none⟩) 1 _ (World.ownsRow.alloc hown _) hat (by simpa using hlen) (Nat.le_trans hB hg0.size)
  have hr' : AppRun Tryz.prog 22 22 o.type (.slice (some ⟨s, 0, none⟩) xs.length cap) (.slice (some ⟨w.heap.size, 0, none⟩) 1 1) (w.alloc (.cells #[.int .u8 z] 5)) (.slice (some ⟨s', 0, none⟩) (xs ++ [c]).length cap') W := by rw [ht]; exact hr
  exact wpList_append_ran hr' hg hop hs hx (hK _ s' cap' W (Lib.hid rfl) hm (grown_trans hg0 hgr))

/-- append of bytes, in the walk -/
theorem wp_onto1 {B s cap : Nat} {xs l : List UInt8} {p : Option Addr} {k : Nat} {w : World} (hown : Mine w B s cap xs) (h : At w p l) (hlen : xs.length + l.length ≤ 140737488355328) (hB : B ≤ w.heap.size)
    {ops : Array Oper} {rest : List Oper} {o : Oper} {a : Act} {Q : Exit → Act → World → Prop} {y x : Operand}
    (ht : o.type = 22) (hg : o.guard = none) (hop : o.op = Op.call { callee := Callee.builtin Builtin.append, args := #[y, x], argTypes := #[22, 22] })
    (hs : a.eval y = .slice (some ⟨s, 0, none⟩) xs.length cap) (hx : a.eval x = .slice p l.length k)
    (hK : ∀ ys s' cap' W, Hid (ys = xs ++ l) → Mine W B s' cap' ys → w.grownBy W (some s) → wpList Tryz.prog ops Q rest (a.put o.dst (.slice (some ⟨s', 0, none⟩) ys.length cap')) W) :
    wpList Tryz.prog ops Q (o :: rest) a w := by
  obtain ⟨s', cap', W, hr, hm, hgr⟩ := side_any B s cap xs l p k w hown h hlen hB
  have hr' : AppRun Tryz.prog 22 22 o.type (.slice (some ⟨s, 0, none⟩) xs.length cap) (.slice p l.length k) w (.slice (some ⟨s', 0, none⟩) (xs ++ l).length cap') W := by rw [ht]; exact hr
  exact wpList_append_ran hr' hg hop hs hx (hK _ s' cap' W (Lib.hid rfl) hm hgr)
end Go.Proofs.YtnlhpndjogjejaaGreatDoor

/- The walk of package stuff's Len: what each group takes is told to a closure that counts. -/
namespace Go.Proofs.YtnlhpndjogjejaaGreatDoor
open Go.RowKit

/-- the closure's count stands in block B, which is the call's own -/
def LenI (w : World) (xs : List UInt8) (w' : World) : Prop := Below w.heap.size w w' ∧ w'.heap[w.heap.size]? = some (.cells #[.int .i64 xs.length] 3 (0, 0))

set_option maxHeartbeats 1000000 in
theorem len_tell (w : World) (xs t : List UInt8) (q : Option Addr) (k : Nat) (w' : World) (h : LenI w xs w') (hb : xs.length + 1 + t.length ≤ 2147483648) :
    Calls Tryz.prog 76 #[.slice q t.length k, .pointer (some ⟨w.heap.size, 0, none⟩)] w' fun e w'' => e = .returned (.tuple #[]) ∧ LenI w (xs ++ [UInt8.ofNat (t.length + 1)] ++ t) w'' := by
  have hc := one_cell h.2
  have hf := one_free h.2
  have H := Lib.hid h
  clear h
  go_enter Tryz.func76, Tryz.ntmps76
  go_wp2
  go_end0
  refine ⟨rfl, H.out.1.setCell (Nat.le_refl _) _, ?_⟩
  rw [one_set H.out.2]
  simp
  omega

set_option maxHeartbeats 1000000 in
theorem lenK (p : Option Addr) (c : Nat) (l : List UInt8) (w : World) (hl : l.length ≤ 1073741824) (hlc : l.length ≤ c) (h : At w p l) :
    Calls Tryz.prog 65 #[.slice p l.length c] w fun e w' => e = .returned (.int .i64 ((Cob.stuff l).length : Nat)) ∧ Below w.heap.size w w' := by
  have HA := Lib.hid h
  clear h
  go_enter Tryz.func65, Tryz.ntmps65
  go_wp2_with fail
  refine (takeGroups_any 76 ⟨w.heap.size, 0, none⟩ (LenI w) p c l _ hl hlc (fun args w => enters_body Tryz.func76 (by kernel_rfl) rfl args w) (fun xs w' hi => HA.out.on hi.1) ?_ (fun xs q k t w' hi _ _ hb _ => len_tell w xs t q k w' hi hb)).mono ?_
  · exact ⟨(Below.refl _ _).alloc (Nat.le_refl _) _, heap_new w _⟩
  · rintro e w1 ⟨rfl, hi⟩
    have hc := one_cell hi.2
    have HB := Lib.hid hi.1
    clear hi
    go_wp2
    go_ret
    exact ⟨rfl, HB.out⟩
end Go.Proofs.YtnlhpndjogjejaaGreatDoor

/- The walk of package stuff's Stuff: what each group takes is told to a closure that writes it. -/
namespace Go.Proofs.YtnlhpndjogjejaaGreatDoor
open Go.RowKit

/-- the closure's slice stands in the variable g: both are the call's own -/
def StuI (w : World) (g : Nat) (xs : List UInt8) (w' : World) : Prop := Below w.heap.size w w' ∧ w.heap.size ≤ g ∧ ∃ s cap, Var w' w.heap.size g s cap xs

theorem stu_grown {w W W' : World} {s : Nat} (h : Below w.heap.size w W) (hs : w.heap.size ≤ s) (hg : W.grownBy W' (some s)) : Below w.heap.size w W' :=
  h.grown hg h.size (fun k hk => by cases hk; exact hs)

set_option maxRecDepth 100000 in
set_option maxHeartbeats 1000000 in
theorem stu_tell (w : World) (g : Nat) (xs t : List UInt8) (q : Option Addr) (k : Nat) (w' : World) (h : StuI w g xs w') (hq : ∀ ys w'', StuI w g ys w'' → At w'' q t) (ht : t.length ≤ 254) (hb : xs.length + 1 + t.length ≤ 2147483648) :
    Calls Tryz.prog 67 #[.slice q t.length k, .pointer (some ⟨g, 0, none⟩)] w' fun e w'' => e = .returned (.tuple #[]) ∧ StuI w g (xs ++ [UInt8.ofNat (t.length + 1)] ++ t) w'' := by
  obtain ⟨hbl, hg, s, cap, hv⟩ := h
  have hc := one_cell hv.box
  have hcn : (UInt8.ofNat (t.length + 1)).toNat = t.length + 1 := Cob.len_byte _ ht
  have HQ := Lib.hid hq
  have HV := Lib.hid hv
  have HB := Lib.hid hbl
  have hB := hbl.size
  clear hv hbl hq
  generalize UInt8.ofNat (t.length + 1) = cc at hcn
  go_enter Tryz.func67, Tryz.ntmps67
  go_wp2_with (first
    | (at_builtin; refine wp_push1 HV.out.mine cc (by omega) hB (by omega) rfl rfl rfl rfl rfl rfl ?_; intro ys s1 cap1 W1 HY hm1 hg1
       have hf1 := one_free (HV.out.still hg1)
       have hc0 := one_cell (HV.out.still hg1)
       have HV1 := Lib.hid (var_store (HV.out.still hg1) hm1)
       have HB1 := Lib.hid ((stu_grown HB.out HV.out.mine.base.1 hg1).setCell (p := ⟨g, 0, none⟩) hg (.slice (some ⟨s1, 0, none⟩) ys.length cap1))
       have hc1 := one_cell HV1.out.box
       have HA1 := Lib.hid (HQ.out _ _ ⟨HB1.out, hg, s1, cap1, HV1.out⟩)
       have hl1 : ys.length ≤ xs.length + 1 := by rw [HY.out]; simp
       clear hm1 hg1)
    | (at_builtin; refine wp_onto1 HV1.out.mine HA1.out (by omega) HB1.out.size rfl rfl rfl rfl rfl ?_; intro zs s2 cap2 W2 HZ hm2 hg2
       have hf2 := one_free (HV1.out.still hg2)
       have hc2 := one_cell (HV1.out.still hg2)
       have HV2 := Lib.hid (var_store (HV1.out.still hg2) hm2)
       have HB2 := Lib.hid ((stu_grown HB1.out HV1.out.mine.base.1 hg2).setCell (p := ⟨g, 0, none⟩) hg (.slice (some ⟨s2, 0, none⟩) zs.length cap2))
       clear hm2 hg2))
  go_end0
  have hz : zs = xs ++ [cc] ++ t := by rw [HZ.out, HY.out]
  rw [← hz]
  exact ⟨rfl, HB2.out, hg, s2, cap2, HV2.out⟩

set_option maxRecDepth 100000 in
set_option maxHeartbeats 1000000 in
theorem stuffK_stuff (p : Option Addr) (c : Nat) (l : List UInt8) (w : World) (hl : l.length ≤ 1073741824) (hlc : l.length ≤ c) (h : At w p l) :
    Calls Tryz.prog 57 #[.slice p l.length c] w fun e w' => ∃ g o cap, e = .returned (.slice (some ⟨g, o, none⟩) (Cob.stuff l).length cap) ∧ Free w' g o (Cob.stuff l) ∧ w.heap.size ≤ g ∧ (Cob.stuff l).length ≤ cap ∧ Below w.heap.size w w' := by
  obtain ⟨i0, hi, hz0, hz1, hz2⟩ := info_parts info8
  have HA := Lib.hid h
  have hbd := (Cob.stuff_length l).2
  obtain ⟨n, hn⟩ : ∃ n, n = (Cob.stuff l).length := ⟨_, rfl⟩
  have HLn := Lib.hid (lenK p c l w hl hlc h)
  rw [← hn] at HLn hbd
  clear h
  have HN := Lib.hid hn
  clear hn
  go_enter Tryz.func57, Tryz.ntmps57
  go_wp2_with fail
  refine HLn.out.mono ?_
  rintro e w1 ⟨rfl, hb1⟩
  have HB1 := Lib.hid hb1
  have hB1 := hb1.size
  clear hb1
  go_wp2_with (first
    | (at_make; refine wpList_make_own _ rfl _ _ 22 rfl w.heap.size 5 i0 (.int .u8 0) 1 Tryz.underlying22 hi hz0 hz1 .i64 .i64 n n rfl rfl rfl (by rw [hz2]; omega) (by unfold maxLen; omega) hB1 ?_; intro w2 hown hgrow
       have HM2 : Hid (Mine w2 w.heap.size w1.heap.size n []) := hown
       have HG2 := Lib.hid hgrow
       clear hown hgrow)
    | fail)
  have hs2 : w1.heap.size ≤ w2.heap.size := HG2.out.size
  have hB2 : Below w.heap.size w w2 := HB1.out.grown HG2.out hB1 (fun k hk => by cases hk)
  refine (takeGroups_any 67 ⟨w2.heap.size, 0, none⟩ (StuI w w2.heap.size) p c l _ hl hlc (fun args w => enters_body Tryz.func67 (by kernel_rfl) rfl args w) (fun xs w' hi => HA.out.on hi.1) ?_ (fun xs q k t w' hi hq ht hb _ => stu_tell w w2.heap.size xs t q k w' hi hq ht hb)).mono ?_
  · exact ⟨hB2.alloc (by omega) _, by omega, w1.heap.size, n, ⟨heap_new w2 _, World.ownsRow.alloc HM2.out _⟩⟩
  · rintro e w3 ⟨rfl, hb3, hg3, s, cap, hv⟩
    have hc := one_cell hv.box
    have HB3 := Lib.hid hb3
    have HV := Lib.hid hv
    clear hb3 hv hB2
    go_wp2
    go_ret
    exact ⟨s, 0, cap, rfl, HV.out.mine.free, HV.out.mine.base.1, HV.out.mine.base.2.2, HB3.out⟩
end Go.Proofs.YtnlhpndjogjejaaGreatDoor

/- The walk of package stuff's readGroups, whatever the state of the closure of three captured variables that it tells the groups to. -/
namespace Go.Proofs.YtnlhpndjogjejaaGreatDoor
open Go.RowKit

set_option maxHeartbeats 1000000 in
theorem readGroups_none (p : Option Addr) (c : Nat) (v : Value) (w : World) : Calls Tryz.prog 41 #[.slice p 0 c, v] w fun e w' => e = .returned (.int .i64 30) ∧ w' = w := by
  go_enter Tryz.func41, Tryz.ntmps41
  go_wp2
  go_ret
  exact ⟨rfl, rfl⟩

set_option maxRecDepth 100000 in
set_option maxHeartbeats 4000000 in
theorem readGroups_in (f : FuncId) (g1 g2 g3 : Addr) (J : List UInt8 → Nat → Nat → World → Prop) (b o c : Nat) (l : List UInt8) (w : World) (hl : l.length ≤ 140737488351232) (hlc : l.length ≤ c) (hne : l ≠ []) (hz : Cob.Nz l)
    (hE : ∀ (args : Array Value) (w : World), (callFunc f args).run Tryz.prog w = .ok (.enter f args) w) (hA : ∀ ys la ah w', J ys la ah w' → At w' (some ⟨b, o, none⟩) l) (hJ : J [] 0 0 w)
    (hT : ∀ ys la ah q k t w', J ys la ah w' → (∀ ys la ah w'', J ys la ah w'' → At w'' q t) → t.length ≤ 254 → ys.length + t.length + 1 ≤ 140737488355328 → la ≤ 254 →
      Calls Tryz.prog f #[.slice q t.length k, .pointer (some g1), .pointer (some g2), .pointer (some g3)] w' fun e w'' => e = .returned (.tuple #[]) ∧ J (ys ++ t ++ if t.length < 254 then [0] else []) t.length la w'') :
    Calls Tryz.prog 41 #[.slice (some ⟨b, o, none⟩) l.length c, .func (.func f) #[] #[.pointer (some g1), .pointer (some g2), .pointer (some g3)]] w fun e w' =>
      ∃ ys la ah, J ys la ah w' ∧ ((e = .returned (.int .i64 30) ∧ Cob.un l = (30, [])) ∨ (e = .returned (.int .i64 0) ∧ Cob.Rd l l.length ys la ah)) := by
  have HA := Lib.hid hA
  have HJ := Lib.hid hJ
  have HT := Lib.hid hT
  have HZ := Lib.hid hz
  have hpos : 0 < l.length := List.length_pos_iff.2 hne
  have HNe := Lib.hid hne
  have hne0 : ((l.length : Int) == 0) = false := by rw [beq_eq_false_iff_ne]; omega
  clear hA hJ hT hz hne
  go_enter Tryz.func41, Tryz.ntmps41
  go_wp2
  go_loopw [0, 5] (fun v0 _ wr => ∃ (a n : Nat) (ys : List UInt8) (la ah : Nat) (q : Option Addr) (d : Nat), a + n = l.length ∧ v0 = .slice q n d ∧ n ≤ d ∧ Hid ((∀ ys la ah w', J ys la ah w' → At w' q (l.drop a)) ∧ Cob.Rd l a ys la ah ∧ J ys la ah wr)) (fun v0 _ _ => lenV v0)
  case atStart => exact ⟨0, l.length, [], 0, 0, _, c, by omega, rfl, hlc, HA.out, Cob.rd_start HNe.out, HJ.out⟩
  case round =>
    obtain ⟨a, n, ys, la, ah, q, d, han, rfl, hnd, HK⟩ := hrel
    by_cases hn : n = 0
    · subst hn
      go_wp2
      go_ret
      obtain ⟨-, h2, h3⟩ := HK.out
      rw [show a = l.length by omega] at h2
      exact ⟨ys, la, ah, h3, .inr ⟨rfl, h2⟩⟩
    · have hal : a < l.length := by omega
      obtain ⟨b1, o1, rfl, hlt1, hc1⟩ := at_some (HK.out.1 _ _ _ _ HK.out.2.2) (by rw [List.length_drop]; omega)
      have hcell := hc1 0 (by rw [List.length_drop]; omega)
      rw [List.getElem_drop] at hcell
      simp only [Nat.add_zero] at hcell
      have hz0 : l[a] ≠ 0 := HZ.out _ (List.getElem_mem hal)
      have hz1 : 1 ≤ l[a].toNat := by
        rcases Nat.eq_zero_or_pos l[a].toNat with h | h
        · exact absurd (UInt8.toNat_inj.1 (by rw [h]; rfl)) hz0
        · exact h
      have hz2 := l[a].toNat_lt
      obtain ⟨k, hk⟩ : ∃ k, l[a].toNat = k + 1 := ⟨l[a].toNat - 1, by omega⟩
      rw [hk] at hcell hz2
      have HKv := Lib.hid hk
      have HCa := Lib.hid (HK.out.1)
      clear hz0 hz1 hk hc1
      by_cases hsh : n < k + 1
      · go_wp2
        go_ret
        exact ⟨ys, la, ah, HK.out.2.2, .inl ⟨rfl, Cob.rd_short HZ.out HK.out.2.1 hal (by have := HKv.out; omega)⟩⟩
      · have HRn := Lib.hid (Cob.rd_next HK.out.2.1 hal k HKv.out (by omega))
        have hle := Cob.rd_le HK.out.2.1
        have htl : ((l.drop (a + 1)).take k).length = k := by rw [List.length_take, List.length_drop]; omega
        have hk254 : k ≤ 254 := by omega
        have hcT : ∀ (q' : Option Addr) (d' : Nat), (∀ ys la ah w', J ys la ah w' → At w' q' ((l.drop (a + 1)).take k)) →
            Calls Tryz.prog f #[.slice q' k d', .pointer (some g1), .pointer (some g2), .pointer (some g3)] wr fun e w'' => e = .returned (.tuple #[]) ∧ J (ys ++ (l.drop (a + 1)).take k ++ if k < 254 then [0] else []) k la w'' := fun q' d' hq => by
          have := HT.out ys la ah q' d' ((l.drop (a + 1)).take k) wr HK.out.2.2 hq (by omega) (by omega) (by omega)
          rw [htl] at this
          exact this
        have HCT := Lib.hid hcT
        clear hcT htl
        by_cases hd : d = 1
        · have hk0 : k = 0 := by omega
          subst hk0
          go_wp2_with fail
          refine (HCT.out _ _ (fun _ _ _ _ _ => .inl rfl)).mono ?_
          rintro e w2 ⟨rfl, hJ2⟩
          have HJ2 := Lib.hid hJ2
          clear hJ2
          go_wp2
          go_roundw
          case rel =>
            refine ⟨a + 0 + 1, n - 1, _, 0, la, _, _, by omega, rfl, by omega, fun ys la ah w' hj => ?_, HRn.out, HJ2.out⟩
            exact .inl (List.drop_eq_nil_of_le (by omega))
          case measure => simp [lenV]; omega
        · go_wp2_with fail
          refine (HCT.out _ _ (fun _ _ _ _ hj => ?_)).mono ?_
          · have h1 := at_take (at_drop (HCa.out _ _ _ _ hj) 1) k
            rw [List.drop_drop] at h1
            exact h1
          rintro e w2 ⟨rfl, hJ2⟩
          have HJ2 := Lib.hid hJ2
          clear hJ2
          by_cases hdk : d = k + 1
          · subst hdk
            go_wp2
            go_roundw
            case rel =>
              refine ⟨a + k + 1, 0, _, k, la, _, _, by omega, rfl, by omega, fun ys la ah w' hj => ?_, HRn.out, HJ2.out⟩
              exact .inl (List.drop_eq_nil_of_le (by omega))
            case measure => simp [lenV]; omega
          · go_wp2
            go_roundw
            case rel =>
              refine ⟨a + k + 1, n - (k + 1), _, k, la, _, _, by omega, rfl, by omega, fun ys la ah w' hj => ?_, HRn.out, HJ2.out⟩
              have h1 := at_drop (HCa.out _ _ _ _ hj) (k + 1)
              rw [List.drop_drop] at h1
              exact h1
            case measure => simp [lenV]; omega
end Go.Proofs.YtnlhpndjogjejaaGreatDoor

/- The walk of package stuff's Unstuff: each group is told to a closure that puts it and its zero byte; the last zero byte is taken off. -/
namespace Go.Proofs.YtnlhpndjogjejaaGreatDoor
open Go.RowKit

/-- the closure's variables: the bytes in g, how many the last group has in g + 2, the one ahead of it in g + 1 -/
structure UnI (w : World) (g : Nat) (ys : List UInt8) (la ah : Nat) (w' : World) : Prop where
  below : Below w.heap.size w w'
  base : w.heap.size ≤ g
  var : ∃ s cap, Var w' w.heap.size g s cap ys
  last : w'.heap[g + 2]? = some (.cells #[.int .i64 la] 3 (0, 0))
  ahead : w'.heap[g + 1]? = some (.cells #[.int .i64 ah] 3 (0, 0))

theorem kept_far {W W' : World} {s b : Nat} {o : Obj} (h : W.heap[b]? = some o) (hg : W.grownBy W' (some s)) (hne : b ≠ s) : W'.heap[b]? = some o :=
  (hg.block b (one_lt h) (fun hc => hne (Option.some.inj hc))).trans h

/-- the bytes are put: what else stands stays -/
theorem un_put {w W W' : World} {g s cap s' cap' la ah : Nat} {ys zs : List UInt8} (hb : Below w.heap.size w W) (hg : w.heap.size ≤ g) (hv : Var W w.heap.size g s cap ys) (hl : W.heap[g + 2]? = some (.cells #[.int .i64 la] 3 (0, 0)))
    (ha : W.heap[g + 1]? = some (.cells #[.int .i64 ah] 3 (0, 0))) (hm : Mine W' w.heap.size s' cap' zs) (hgr : W.grownBy W' (some s)) :
    UnI w g zs la ah (W'.setCell ⟨g, 0, none⟩ (.slice (some ⟨s', 0, none⟩) zs.length cap')) := by
  have h2 := kept_far hl hgr (fun hc => mine_ne hv.mine hl (by decide) hc.symm)
  have h1 := kept_far ha hgr (fun hc => mine_ne hv.mine ha (by decide) hc.symm)
  refine ⟨(stu_grown hb hv.mine.base.1 hgr).setCell (p := ⟨g, 0, none⟩) hg _, hg, ⟨s', cap', var_store (hv.still hgr) hm⟩, kept_far h2 (grown_set W' g _) (by omega), kept_far h1 (grown_set W' g _) (by omega)⟩
/-- the two counts are told -/
theorem un_told {w W : World} {g la ah : Nat} {ys : List UInt8} (h : UnI w g ys la ah W) (n : Nat) :
    UnI w g ys n la ((W.setCell ⟨g + 1, 0, none⟩ (.int .i64 la)).setCell ⟨g + 2, 0, none⟩ (.int .i64 n)) := by
  obtain ⟨hb, hg, ⟨s, cap, hv⟩, hl, ha⟩ := h
  have m1 := mine_grown hv.mine (grown_set W (g + 1) (.int .i64 la)) (mine_ne hv.mine ha (by decide))
  have b1 := kept_far hv.box (grown_set W (g + 1) (.int .i64 la)) (by omega)
  have l1 := kept_far hl (grown_set W (g + 1) (.int .i64 la)) (by omega)
  have a1 := one_set ha (.int .i64 la)
  refine ⟨(hb.setCell (p := ⟨g + 1, 0, none⟩) (by show w.heap.size ≤ g + 1; omega) _).setCell (p := ⟨g + 2, 0, none⟩) (by show w.heap.size ≤ g + 2; omega) _, hg, ⟨s, cap, ?_, ?_⟩, one_set l1 _, kept_far a1 (grown_set _ (g + 2) _) (by omega)⟩
  · exact kept_far b1 (grown_set _ (g + 2) _) (by omega)
  · exact mine_grown m1 (grown_set _ (g + 2) _) (mine_ne m1 l1 (by decide))

set_option maxRecDepth 100000 in
set_option maxHeartbeats 2000000 in
theorem un_tell (w : World) (g : Nat) (ys t : List UInt8) (la ah : Nat) (q : Option Addr) (k : Nat) (w' : World) (h : UnI w g ys la ah w') (hq : ∀ ys la ah w'', UnI w g ys la ah w'' → At w'' q t) (ht : t.length ≤ 254) (hb : ys.length + t.length + 1 ≤ 140737488355328) :
    Calls Tryz.prog 42 #[.slice q t.length k, .pointer (some ⟨g, 0, none⟩), .pointer (some ⟨g + 2, 0, none⟩), .pointer (some ⟨g + 1, 0, none⟩)] w' fun e w'' => e = .returned (.tuple #[]) ∧ UnI w g (ys ++ t ++ if t.length < 254 then [0] else []) t.length la w'' := by
  have HU := Lib.hid h
  obtain ⟨hbl, hg, ⟨s, cap, hv⟩, hl, ha⟩ := h
  have hc := one_cell hv.box
  have HA0 := Lib.hid (hq _ _ _ _ HU.out)
  have HV := Lib.hid hv
  have HB := Lib.hid hbl
  have HL := Lib.hid hl
  have HH := Lib.hid ha
  have hB := hbl.size
  clear hv hbl hl ha hq
  by_cases h254 : t.length < 254
  · have h254' : (t.length : Int) < 254 := by omega
    rw [if_pos h254]
    go_enter Tryz.func42, Tryz.ntmps42
    go_wp2_with (first
      | (at_builtin; refine wp_onto1 HV.out.mine HA0.out (by omega) hB rfl rfl rfl rfl rfl ?_; intro zs s1 cap1 W1 HZ hm1 hg1
         have hf1 := one_free (HV.out.still hg1)
         have hc0 := one_cell (HV.out.still hg1)
         have HU1 := Lib.hid (un_put HB.out hg HV.out HL.out HH.out hm1 hg1)
         have HV1 := Lib.hid (var_store (HV.out.still hg1) hm1)
         have hc1 := one_cell HV1.out.box
         have hl1 : zs.length ≤ ys.length + t.length := by rw [HZ.out]; simp
         clear hm1 hg1 HV HA0)
      | (at_builtin; refine wp_push1 HV1.out.mine 0 (by omega) HU1.out.below.size rfl rfl rfl rfl rfl rfl (by simp [World.setCell]) ?_; intro us s2 cap2 W2 HY hm2 hg2
         have hf2 := one_free (HV1.out.still hg2)
         have hc2 := one_cell (HV1.out.still hg2)
         have HU2 := Lib.hid (un_put HU1.out.below hg HV1.out HU1.out.last HU1.out.ahead hm2 hg2)
         have hcl := one_cell HU2.out.last
         have hca := one_cell HU2.out.ahead
         have hfl := one_free HU2.out.last
         have hfa := one_free HU2.out.ahead
         clear hm2 hg2 HV1))
    go_end0
    have hu : ys ++ t ++ [0] = us := by rw [HY.out, HZ.out]
    rw [hu]
    exact ⟨rfl, un_told HU2.out _⟩
  · rw [if_neg h254, List.append_nil]
    go_enter Tryz.func42, Tryz.ntmps42
    go_wp2_with (at_builtin; refine wp_onto1 HV.out.mine HA0.out (by omega) hB rfl rfl rfl rfl rfl ?_; intro zs s1 cap1 W1 HZ hm1 hg1
                 have hf1 := one_free (HV.out.still hg1)
                 have hc0 := one_cell (HV.out.still hg1)
                 have HU1 := Lib.hid (un_put HB.out hg HV.out HL.out HH.out hm1 hg1)
                 have hcl := one_cell HU1.out.last
                 have hca := one_cell HU1.out.ahead
                 have hfl := one_free HU1.out.last
                 have hfa := one_free HU1.out.ahead
                 clear hm1 hg1 HV HA0)
    go_end0
    rw [← HZ.out]
    exact ⟨rfl, un_told HU1.out _⟩

theorem heap_old (w : World) (o : Obj) {k : Nat} (h : k < w.heap.size) : (w.alloc o).heap[k]? = w.heap[k]? := by
  show (w.heap.push o)[k]? = _
  rw [Array.getElem?_push, if_neg (by omega)]

theorem free_left {w : World} {g o : Nat} {xs zs : List UInt8} (h : Free w g o (xs ++ zs)) : Free w g o xs :=
  ⟨h.1, fun j hj => by
    have := h.2.1 j (by rw [List.length_append]; omega)
    rwa [List.getElem_append_left hj] at this, fun j hj => h.2.2 j (by rw [List.length_append]; omega)⟩

/-- what Unstuff's answer is asked to be -/
def UnPost (w : World) (l : List UInt8) (e : Ending) (w' : World) : Prop :=
  ∃ q cap, e = .returned (.tuple #[.slice q (Cob.un l).2.length cap, .int .i64 ((Cob.un l).1 : Nat)]) ∧ At w' q (Cob.un l).2 ∧ (Cob.un l).2.length ≤ cap ∧ ((Cob.un l).2 ≠ [] → ∃ g o, q = some ⟨g, o, none⟩ ∧ w.heap.size ≤ g ∧ Free w' g o (Cob.un l).2) ∧ Below w.heap.size w w'
theorem un_none_post {w w' : World} {l : List UInt8} {c : Nat} (h : Cob.un l = (c, [])) (hb : Below w.heap.size w w') : UnPost w l (.returned (.tuple #[.slice none 0 0, .int .i64 c])) w' := by
  unfold UnPost
  rw [h]
  exact ⟨none, 0, rfl, .inl rfl, Nat.le_refl _, fun hc => absurd rfl hc, hb⟩
theorem un_some_post {w w' : World} {l xs : List UInt8} {s cap : Nat} (h : Cob.un l = (0, xs)) (hf : Free w' s 0 xs) (hs : w.heap.size ≤ s) (hc : xs.length ≤ cap) (hb : Below w.heap.size w w') : UnPost w l (.returned (.tuple #[.slice (some ⟨s, 0, none⟩) xs.length cap, .int .i64 0])) w' := by
  unfold UnPost
  rw [h]
  exact ⟨_, cap, rfl, hf.at, hc, fun _ => ⟨s, 0, rfl, hs, hf⟩, hb⟩

theorem nz_of_first {l : List UInt8} (h : FirstZ l l.length) : Cob.Nz l := by
  intro c hc
  obtain ⟨j, hj, rfl⟩ := List.getElem_of_mem hc
  exact h.2.1 j hj hj

set_option maxRecDepth 100000 in
set_option maxHeartbeats 2000000 in
theorem unstuffK (p : Option Addr) (c : Nat) (l : List UInt8) (w : World) (hl : l.length ≤ 140737488351232) (hlc : l.length ≤ c) (h : At w p l) :
    Calls Tryz.prog 26 #[.slice p l.length c] w fun e w' => UnPost w l e w' := by
  obtain ⟨i0, hi, hz0, hz1, hz2⟩ := info_parts info8
  have HA := Lib.hid h
  have HF := Lib.hid (firstZero_ok p c l hl w h)
  clear h
  go_enter Tryz.func26, Tryz.ntmps26
  go_wp2_with fail
  refine HF.out.mono ?_
  rintro e w1 ⟨k, rfl, hFz, rfl⟩
  have hkl := hFz.1
  have HFz := Lib.hid hFz
  clear hFz HF
  by_cases hk : k < l.length
  · have hk' : (k : Int) < (l.length : Int) := by omega
    have h0 : Cob.un l = (40, []) := Cob.un_zero (by rw [← HFz.out.2.2 hk]; exact List.getElem_mem hk)
    have H0 := Lib.hid h0
    clear h0
    go_wp2
    go_ret2
    exact un_none_post H0.out (Below.refl _ _)
  · have hkk : k = l.length := by omega
    subst hkk
    have HZ := Lib.hid (nz_of_first HFz.out)
    clear HFz hk
    go_wp2_with (first
      | (at_make; refine wpList_make_own _ rfl _ _ 22 rfl w1.heap.size 5 i0 (.int .u8 0) 1 Tryz.underlying22 hi hz0 hz1 .i64 .i64 l.length l.length rfl rfl rfl (by rw [hz2]; omega) (by unfold maxLen; omega) (Nat.le_refl _) ?_; intro w2 hown hgrow
         have HM2 : Hid (Mine w2 w1.heap.size w1.heap.size l.length []) := hown
         have HG2 := Lib.hid hgrow
         clear hown hgrow)
      | fail)
    have hs2 : w1.heap.size ≤ w2.heap.size := HG2.out.size
    have hB2 : Below w1.heap.size w1 w2 := (Below.refl _ _).grown HG2.out (Nat.le_refl _) (fun k hk => by cases hk)
    have HR : Hid (Calls Tryz.prog 41 #[.slice p l.length c, .func (.func 42) #[] #[.pointer (some ⟨w2.heap.size, 0, none⟩), .pointer (some ⟨w2.heap.size + 2, 0, none⟩), .pointer (some ⟨w2.heap.size + 1, 0, none⟩)]]
        (((w2.alloc (.cells #[.slice (some ⟨w1.heap.size, 0, none⟩) 0 l.length] 22)).alloc (.cells #[.int .i64 0] 3)).alloc (.cells #[.int .i64 0] 3))
        fun e w' => ∃ ys la ah, UnI w1 w2.heap.size ys la ah w' ∧ ((e = .returned (.int .i64 30) ∧ Cob.un l = (30, [])) ∨ (e = .returned (.int .i64 0) ∧ l ≠ [] ∧ Cob.Rd l l.length ys la ah))) := by
      have hst : UnI w1 w2.heap.size [] 0 0 (((w2.alloc (.cells #[.slice (some ⟨w1.heap.size, 0, none⟩) 0 l.length] 22)).alloc (.cells #[.int .i64 0] 3)).alloc (.cells #[.int .i64 0] 3)) := by
        refine ⟨((hB2.alloc (by omega) _).alloc (by simp; omega) _).alloc (by simp; omega) _, hs2, ⟨w1.heap.size, l.length, ?_, ?_⟩, ?_, ?_⟩
        · rw [heap_old _ _ (by simp; omega), heap_old _ _ (by simp)]
          exact heap_new w2 _
        · exact World.ownsRow.alloc (World.ownsRow.alloc (World.ownsRow.alloc HM2.out _) _) _
        · have := heap_new ((w2.alloc (.cells #[.slice (some ⟨w1.heap.size, 0, none⟩) 0 l.length] 22)).alloc (.cells #[.int .i64 0] 3)) (.cells #[.int .i64 0] 3)
          simpa using this
        · rw [heap_old _ _ (by simp)]
          have := heap_new (w2.alloc (.cells #[.slice (some ⟨w1.heap.size, 0, none⟩) 0 l.length] 22)) (.cells #[.int .i64 0] 3)
          simpa using this
      show Calls _ _ _ _ _
      by_cases hne : l = []
      · subst hne
        refine (readGroups_none p c _ _).mono ?_
        rintro e w' ⟨rfl, rfl⟩
        exact ⟨[], 0, 0, hst, .inl ⟨rfl, Cob.un_none⟩⟩
      · obtain ⟨b, o, rfl, -, -⟩ := at_some HA.out (List.length_pos_iff.2 hne)
        refine (readGroups_in 42 ⟨w2.heap.size, 0, none⟩ ⟨w2.heap.size + 2, 0, none⟩ ⟨w2.heap.size + 1, 0, none⟩ (UnI w1 w2.heap.size) b o c l _ hl hlc hne HZ.out (fun args w => enters_body Tryz.func42 (by kernel_rfl) rfl args w)
          (fun ys la ah w' hu => HA.out.on hu.below) hst (fun ys la ah q k t w' hu hq ht hb _ => un_tell w1 w2.heap.size ys t la ah q k w' hu hq ht hb)).mono ?_
        rintro e w' ⟨ys, la, ah, hu, h1 | h1⟩
        · exact ⟨ys, la, ah, hu, .inl h1⟩
        · exact ⟨ys, la, ah, hu, .inr ⟨h1.1, hne, h1.2⟩⟩
    refine HR.out.mono ?_
    rintro e w3 ⟨ys, la, ah, hu, hcase⟩
    have HU := Lib.hid hu
    clear HR hB2
    rcases hcase with ⟨rfl, h30⟩ | ⟨rfl, hne, hrd⟩
    · have H30 := Lib.hid h30
      clear h30 hu
      go_wp2
      go_ret2
      exact un_none_post H30.out HU.out.below
    · obtain ⟨s, cap, hv⟩ := hu.var
      have HV := Lib.hid hv
      have hcv := one_cell hv.box
      have hfv := one_free hv.box
      have hcl := one_cell hu.last
      have hca := one_cell hu.ahead
      obtain ⟨xs, hys, hun⟩ := Cob.rd_end HZ.out hne hrd
      have hyb := (Cob.rd_le hrd).1
      clear hv hu hrd hne
      by_cases hah : ah = 254
      · have hb1 : ((ah : Int) == 254) = true := by rw [beq_iff_eq]; omega
        by_cases hl0 : la = 0
        · have hb2 : ((la : Int) == 0) = true := by rw [beq_iff_eq]; omega
          rw [if_pos ⟨hah, hl0⟩] at hun
          have HUN := Lib.hid hun
          clear hun hys
          go_wp2
          go_ret2
          exact un_none_post HUN.out HU.out.below
        · have hb2 : ((la : Int) == 0) = false := by rw [beq_eq_false_iff_ne]; omega
          rw [if_neg (fun hc => hl0 hc.2)] at hun
          have HUN := Lib.hid hun
          clear hun
          by_cases hla : la < 254
          · have hla' : (la : Int) < 254 := by omega
            rw [if_pos hla] at hys
            have hyl : ys.length = xs.length + 1 := by rw [hys]; simp
            have hcl : xs.length ≤ cap := by have := HV.out.mine.base.2.2; omega
            have HYS := Lib.hid hys
            have HYL := Lib.hid hyl
            have hyp : 1 ≤ ys.length := by omega
            have hxb : xs.length ≤ 140737488351233 := by omega
            have hym : (ys.length : Int) - 1 = (xs.length : Int) := by omega
            clear hys hyl
            go_wp2
            go_ret2
            refine un_some_post HUN.out (free_left (zs := [0]) ?_) HV.out.mine.base.1 hcl (HU.out.below.setCell (p := ⟨w2.heap.size, 0, none⟩) (by show w1.heap.size ≤ w2.heap.size; exact hs2) _)
            have hm := mine_grown HV.out.mine (grown_set w3 w2.heap.size (.slice (some ⟨s, 0, none⟩) xs.length cap)) HV.out.ne
            rw [← HYS.out]
            exact hm.free
          · have hla' : ¬ (la : Int) < 254 := by omega
            rw [if_neg hla, List.append_nil] at hys
            subst hys
            go_wp2
            go_ret2
            exact un_some_post HUN.out HV.out.mine.free HV.out.mine.base.1 HV.out.mine.base.2.2 HU.out.below
      · have hb1 : ((ah : Int) == 254) = false := by rw [beq_eq_false_iff_ne]; omega
        rw [if_neg (fun hc => hah hc.1)] at hun
        have HUN := Lib.hid hun
        clear hun
        by_cases hla : la < 254
        · have hla' : (la : Int) < 254 := by omega
          rw [if_pos hla] at hys
          have hyl : ys.length = xs.length + 1 := by rw [hys]; simp
          have hcl : xs.length ≤ cap := by have := HV.out.mine.base.2.2; omega
          have HYS := Lib.hid hys
          have HYL := Lib.hid hyl
          have hyp : 1 ≤ ys.length := by omega
          have hxb : xs.length ≤ 140737488351233 := by omega
          have hym : (ys.length : Int) - 1 = (xs.length : Int) := by omega
          clear hys hyl
          go_wp2
          go_ret2
          refine un_some_post HUN.out (free_left (zs := [0]) ?_) HV.out.mine.base.1 hcl (HU.out.below.setCell (p := ⟨w2.heap.size, 0, none⟩) (by show w1.heap.size ≤ w2.heap.size; exact hs2) _)
          have hm := mine_grown HV.out.mine (grown_set w3 w2.heap.size (.slice (some ⟨s, 0, none⟩) xs.length cap)) HV.out.ne
          rw [← HYS.out]
          exact hm.free
        · have hla' : ¬ (la : Int) < 254 := by omega
          rw [if_neg hla, List.append_nil] at hys
          subst hys
          go_wp2
          go_ret2
          exact un_some_post HUN.out HV.out.mine.free HV.out.mine.base.1 HV.out.mine.base.2.2 HU.out.below
end Go.Proofs.YtnlhpndjogjejaaGreatDoor

/- The walk of the document's own Update. -/
namespace Go.Proofs.YtnlhpndjogjejaaGreatDoor
open Go.RowKit

theorem xor32 (a b : Nat) (ha : a < 4294967296) (hb : b < 4294967296) : bits .xor .u32 (a : Int) (b : Int) = ((a ^^^ b : Nat) : Int) := u32_xor_nat a b ha hb
theorem not32 (a : Nat) (ha : a < 4294967296) : bits .xor .u32 IntKind.u32.max (a : Int) = ((a ^^^ Crc.full : Nat) : Int) := by
  rw [Nat.xor_comm]; exact u32_xor_nat 4294967295 a (by omega) ha

set_option maxHeartbeats 2000000 in
theorem refUpdate_some (s : Nat) (hs : s < 4294967296) (b o c : Nat) (l : List UInt8) (hl : l.length ≤ 140737488351232) (w : World) (hc : Cells w b o l) :
    Calls Tryz.prog 32 #[.int .u32 s, .slice (some ⟨b, o, none⟩) l.length c] w fun e w' => e = .returned (.int .u32 (Crc.update s l : Nat)) ∧ w' = w := by
  have hn := not32 s hs
  have HC := Lib.hid hc
  clear hc
  obtain ⟨r0, hr0⟩ : ∃ r0, r0 = s ^^^ Crc.full := ⟨_, rfl⟩
  rw [← hr0] at hn
  have hr0lt : r0 < 4294967296 := by rw [hr0]; exact Nat.xor_lt_two_pow (n := 32) hs (by decide)
  have HU : Hid (Crc.update s l = Crc.take r0 l ^^^ Crc.full) := by rw [hr0]; exact rfl
  clear hr0
  go_enter Tryz.func32, Tryz.ntmps32
  go_wp2
  go_loop [5, 6] (fun vr vi => ∃ (k r : Nat), k ≤ l.length ∧ vi = .int .i64 k ∧ vr = .int .u32 r ∧ r < 4294967296 ∧ Hid (r = Crc.take r0 (l.take k))) (fun _ vi => l.length - (intOf vi).toNat)
  case atStart => exact ⟨0, r0, by omega, rfl, rfl, hr0lt, rfl⟩
  case round =>
    obtain ⟨k, r, hk, rfl, rfl, hr, HR⟩ := hrel
    by_cases hlt : k < l.length
    · have hcell := HC.out k hlt
      have hc256 : l[k].toNat < 256 := l[k].toNat_lt
      have hx := xor32 r l[k].toNat hr (by omega)
      obtain ⟨q0, hq0⟩ : ∃ q0, q0 = r ^^^ l[k].toNat := ⟨_, rfl⟩
      rw [← hq0] at hx
      have hq0lt : q0 < 4294967296 := by rw [hq0]; exact Nat.xor_lt_two_pow (n := 32) hr (by omega)
      have HN : Hid (Crc.steps 8 q0 = Crc.take r0 (l.take (k + 1))) := by
        show Crc.steps 8 q0 = _
        rw [List.take_succ_eq_append_getElem hlt, Crc.take_snoc, ← HR.out, hq0]; rfl
      clear hq0 HR
      go_wp2
      go_loop [5, 7] (fun vr vj => ∃ (j q : Nat), j ≤ 8 ∧ vj = .int .i64 j ∧ vr = .int .u32 q ∧ q < 4294967296 ∧ Hid (q = Crc.steps j q0)) (fun _ vj => 8 - (intOf vj).toNat)
      case atStart => exact ⟨0, q0, by omega, rfl, rfl, hq0lt, rfl⟩
      case round =>
        obtain ⟨j, q, hj, rfl, rfl, hq, HQ⟩ := hrel
        by_cases hj8 : j < 8
        · by_cases hodd : q % 2 = 1
          · have hb : ((q : Int) % 2 == 1) = true := by rw [beq_iff_eq]; omega
            have hx2 : bits .xor .u32 ((q : Int) / 2) 3988292384 = ((q / 2 ^^^ Crc.poly : Nat) : Int) := by
              have := xor32 (q / 2) 3988292384 (by omega) (by omega)
              simpa [Crc.poly] using this
            have HS : Hid (q / 2 ^^^ Crc.poly = Crc.steps (j + 1) q0 ∧ q / 2 ^^^ Crc.poly < 4294967296) := by
              refine ⟨?_, Nat.xor_lt_two_pow (n := 32) (by omega) Crc.poly_lt⟩
              rw [Crc.steps_succ, ← HQ.out, Crc.step, if_pos hodd]
            generalize q / 2 ^^^ Crc.poly = q1 at hx2 HS
            clear hodd
            go_wp2
            go_round
            case rel => exact ⟨j + 1, q1, by omega, by go_num, rfl, HS.out.2, HS.out.1⟩
            case measure => simp [intOf]; omega
          · have hb : ((q : Int) % 2 == 1) = false := by rw [beq_eq_false_iff_ne]; omega
            have HS : Hid (q / 2 = Crc.steps (j + 1) q0) := by
              show q / 2 = _
              rw [Crc.steps_succ, ← HQ.out, Crc.step, if_neg hodd]
            clear hodd
            go_wp2
            go_round
            case rel => exact ⟨j + 1, q / 2, by omega, by go_num, by go_num, by omega, HS⟩
            case measure => simp [intOf]; omega
        · have hj9 : j = 8 := by omega
          subst hj9
          have HE : Hid (q = Crc.take r0 (l.take (k + 1))) := by
            show q = _
            rw [HQ.out, HN.out]
          clear hj8 hj
          go_wp2
          go_round
          case rel => exact ⟨k + 1, q, by omega, by go_num, rfl, hq, HE⟩
          case measure => simp [intOf]; omega
    · have hkk : k = l.length := by omega
      subst hkk
      have hn2 := not32 r hr
      have HE : Hid ((r ^^^ Crc.full : Nat) = Crc.update s l) := by
        show _ = _
        rw [HU.out, HR.out, List.take_length]
      generalize r ^^^ Crc.full = z at hn2 HE
      go_wp2
      go_ret
      exact ⟨by rw [← HE.out]; rfl, rfl⟩

set_option maxHeartbeats 1000000 in
theorem refUpdate_none (s : Nat) (hs : s < 4294967296) (p : Option Addr) (c : Nat) (w : World) :
    Calls Tryz.prog 32 #[.int .u32 s, .slice p 0 c] w fun e w' => e = .returned (.int .u32 (s : Nat)) ∧ w' = w := by
  have hn := not32 s hs
  obtain ⟨r0, hr0⟩ : ∃ r0, r0 = s ^^^ Crc.full := ⟨_, rfl⟩
  rw [← hr0] at hn
  have hr0lt : r0 < 4294967296 := by rw [hr0]; exact Nat.xor_lt_two_pow (n := 32) hs (by decide)
  have hn2 := not32 r0 hr0lt
  have e : r0 ^^^ Crc.full = s := by rw [hr0]; exact Crc.flip_flip s
  rw [e] at hn2
  clear e hr0
  go_enter Tryz.func32, Tryz.ntmps32
  go_wp2
  go_loop [5, 6] (fun vr vi => vi = .int .i64 0 ∧ vr = .int .u32 r0) (fun _ _ => 0)
  case atStart => exact ⟨rfl, rfl⟩
  case round =>
    obtain ⟨rfl, rfl⟩ := hrel
    go_wp2
    go_ret
    exact ⟨rfl, rfl⟩

/-- the document's Update, of whatever slice -/
theorem refUpdate_any (s : Nat) (hs : s < 4294967296) (p : Option Addr) (c : Nat) (l : List UInt8) (hl : l.length ≤ 140737488351232) (w : World) (h : At w p l) :
    Calls Tryz.prog 32 #[.int .u32 s, .slice p l.length c] w fun e w' => e = .returned (.int .u32 (Crc.update s l : Nat)) ∧ w' = w := by
  rcases h with rfl | ⟨b, o, rfl, _, hc⟩
  · rw [Crc.update_nil]
    exact refUpdate_none s hs p c w
  · exact refUpdate_some s hs b o c l hl w hc

set_option maxHeartbeats 1000000 in
theorem refSum_any (p : Option Addr) (c : Nat) (l : List UInt8) (hl : l.length ≤ 140737488351232) (w : World) (h : At w p l) :
    Calls Tryz.prog 16 #[.slice p l.length c] w fun e w' => e = .returned (.int .u32 (Crc.sum l : Nat)) ∧ w' = w := by
  have HU := Lib.hid (refUpdate_any 0 (by omega) p c l hl w h)
  have HS : Hid (Crc.update 0 l = Crc.sum l) := rfl
  clear h
  go_enter Tryz.func16, Tryz.ntmps16
  go_wp2_with fail
  refine HU.out.mono ?_
  rintro e w' ⟨rfl, rfl⟩
  go_wp2
  go_ret
  exact ⟨by rw [← HS.out]; rfl, rfl⟩
end Go.Proofs.YtnlhpndjogjejaaGreatDoor

/- The walks of package crc: shiftHalf, shiftBit, Update, Sum, Slow. -/
namespace Go.Proofs.YtnlhpndjogjejaaGreatDoor
open Go.RowKit

/-- the table of sixteen words lies as the document's steps make it -/
def Hv (w : World) : Prop := ∀ n (_ : n < 16), w.cell? ⟨1, n, none⟩ = some (.int .u32 (Crc.steps 4 n : Nat))

theorem and15 (r : Nat) (hr : r < 4294967296) : bits .and .u32 (r : Int) 15 = ((r % 16 : Nat) : Int) := by
  have := u32_and_nat r 15 hr (by omega)
  rw [show (15 : Nat) = 2 ^ 4 - 1 from rfl, Nat.and_two_pow_sub_one_eq_mod] at this
  exact this
theorem and1 (r : Nat) (hr : r < 4294967296) : bits .and .u32 (r : Int) 1 = ((r % 2 : Nat) : Int) := by
  have := u32_and_nat r 1 hr (by omega)
  rw [show (1 : Nat) = 2 ^ 1 - 1 from rfl, Nat.and_two_pow_sub_one_eq_mod] at this
  exact this

set_option maxHeartbeats 1000000 in
theorem shiftHalf_any (r : Nat) (hr : r < 4294967296) (w : World) (ht : Hv w) :
    Calls Tryz.prog 68 #[.int .u32 r] w fun e w' => e = .returned (.int .u32 (Crc.steps 4 r : Nat)) ∧ w' = w := by
  have ha := and15 r hr
  have hc := ht (r % 16) (Nat.mod_lt _ (by omega))
  have hm16 : r % 16 < 16 := Nat.mod_lt _ (by omega)
  have hlt : Crc.steps 4 (r % 16) < 4294967296 := Crc.steps_lt 4 (by omega)
  have hx : bits .xor .u32 ((r : Int) / 16) ((Crc.steps 4 (r % 16) : Nat) : Int) = ((r / 16 ^^^ Crc.steps 4 (r % 16) : Nat) : Int) := xor32 (r / 16) _ (by omega) hlt
  have HE : Hid (r / 16 ^^^ Crc.steps 4 (r % 16) = Crc.steps 4 r) := (Crc.nibble r).symm
  generalize Crc.steps 4 (r % 16) = v at hc hlt hx HE
  generalize r / 16 ^^^ v = z at hx HE
  clear ht
  go_enter Tryz.func68, Tryz.ntmps68
  go_wp2
  go_ret
  exact ⟨by rw [← HE.out]; rfl, rfl⟩

set_option maxHeartbeats 2000000 in
theorem update_some (s : Nat) (hs : s < 4294967296) (b o c : Nat) (l : List UInt8) (hl : l.length ≤ 140737488351232) (w : World) (ht : Hv w) (hc : Cells w b o l) :
    Calls Tryz.prog 58 #[.int .u32 s, .slice (some ⟨b, o, none⟩) l.length c] w fun e w' => e = .returned (.int .u32 (Crc.update s l : Nat)) ∧ w' = w := by
  have hn := not32 s hs
  have HC := Lib.hid hc
  have HT := Lib.hid ht
  clear hc ht
  obtain ⟨r0, hr0⟩ : ∃ r0, r0 = s ^^^ Crc.full := ⟨_, rfl⟩
  rw [← hr0] at hn
  have hr0lt : r0 < 4294967296 := by rw [hr0]; exact Nat.xor_lt_two_pow (n := 32) hs (by decide)
  have HU : Hid (Crc.update s l = Crc.take r0 l ^^^ Crc.full) := by rw [hr0]; exact rfl
  clear hr0
  go_enter Tryz.func58, Tryz.ntmps58
  go_wp2
  go_loop [5, 12] (fun vr vi => ∃ (k r : Nat), k ≤ l.length ∧ vi = .int .i64 k ∧ vr = .int .u32 r ∧ r < 4294967296 ∧ Hid (r = Crc.take r0 (l.take k))) (fun _ vi => l.length - (intOf vi).toNat)
  case atStart => exact ⟨0, r0, by omega, rfl, rfl, hr0lt, rfl⟩
  case round =>
    obtain ⟨k, r, hk, rfl, rfl, hr, HR⟩ := hrel
    by_cases hlt : k < l.length
    · have hcell := HC.out k hlt
      have hc256 : l[k].toNat < 256 := l[k].toNat_lt
      have hx := xor32 r l[k].toNat hr (by omega)
      obtain ⟨q0, hq0⟩ : ∃ q0, q0 = r ^^^ l[k].toNat := ⟨_, rfl⟩
      rw [← hq0] at hx
      have hq0lt : q0 < 4294967296 := by rw [hq0]; exact Nat.xor_lt_two_pow (n := 32) hr (by omega)
      have HN : Hid (Crc.steps 4 (Crc.steps 4 q0) = Crc.take r0 (l.take (k + 1))) := by
        show Crc.steps 4 (Crc.steps 4 q0) = _
        rw [← Crc.byte_nibbles, List.take_succ_eq_append_getElem hlt, Crc.take_snoc, ← HR.out, hq0]; rfl
      have hq1lt : Crc.steps 4 q0 < 4294967296 := Crc.steps_lt 4 hq0lt
      have hq2lt : Crc.steps 4 (Crc.steps 4 q0) < 4294967296 := Crc.steps_lt 4 hq1lt
      have H1 := Lib.hid (shiftHalf_any q0 hq0lt w HT.out)
      have H2 := Lib.hid (shiftHalf_any _ hq1lt w HT.out)
      generalize Crc.steps 4 (Crc.steps 4 q0) = q2 at HN hq2lt H2
      generalize Crc.steps 4 q0 = q1 at hq1lt H1 H2
      clear hq0 HR
      go_wp2_with fail
      refine H1.out.mono ?_
      rintro e w' ⟨rfl, rfl⟩
      go_wp2_with fail
      refine H2.out.mono ?_
      rintro e w' ⟨rfl, rfl⟩
      go_wp2
      go_round
      case rel => exact ⟨k + 1, q2, by omega, by go_num, rfl, hq2lt, HN⟩
      case measure => simp [intOf]; omega
    · have hkk : k = l.length := by omega
      subst hkk
      have hn2 := not32 r hr
      have HE : Hid ((r ^^^ Crc.full : Nat) = Crc.update s l) := by
        show _ = _
        rw [HU.out, HR.out, List.take_length]
      generalize r ^^^ Crc.full = z at hn2 HE
      go_wp2
      go_ret
      exact ⟨by rw [← HE.out]; rfl, rfl⟩

set_option maxHeartbeats 1000000 in
theorem update_none (s : Nat) (hs : s < 4294967296) (p : Option Addr) (c : Nat) (w : World) :
    Calls Tryz.prog 58 #[.int .u32 s, .slice p 0 c] w fun e w' => e = .returned (.int .u32 (s : Nat)) ∧ w' = w := by
  have hn := not32 s hs
  obtain ⟨r0, hr0⟩ : ∃ r0, r0 = s ^^^ Crc.full := ⟨_, rfl⟩
  rw [← hr0] at hn
  have hr0lt : r0 < 4294967296 := by rw [hr0]; exact Nat.xor_lt_two_pow (n := 32) hs (by decide)
  have hn2 := not32 r0 hr0lt
  have e : r0 ^^^ Crc.full = s := by rw [hr0]; exact Crc.flip_flip s
  rw [e] at hn2
  clear e hr0
  go_enter Tryz.func58, Tryz.ntmps58
  go_wp2
  go_loop [5, 12] (fun vr vi => vi = .int .i64 0 ∧ vr = .int .u32 r0) (fun _ _ => 0)
  case atStart => exact ⟨rfl, rfl⟩
  case round =>
    obtain ⟨rfl, rfl⟩ := hrel
    go_wp2
    go_ret
    exact ⟨rfl, rfl⟩

/-- Update, of whatever slice -/
theorem update_any (s : Nat) (hs : s < 4294967296) (p : Option Addr) (c : Nat) (l : List UInt8) (hl : l.length ≤ 140737488351232) (w : World) (ht : Hv w) (h : At w p l) :
    Calls Tryz.prog 58 #[.int .u32 s, .slice p l.length c] w fun e w' => e = .returned (.int .u32 (Crc.update s l : Nat)) ∧ w' = w := by
  rcases h with rfl | ⟨b, o, rfl, _, hc⟩
  · rw [Crc.update_nil]
    exact update_none s hs p c w
  · exact update_some s hs b o c l hl w ht hc

set_option maxHeartbeats 1000000 in
theorem sum_any (p : Option Addr) (c : Nat) (l : List UInt8) (hl : l.length ≤ 140737488351232) (w : World) (ht : Hv w) (h : At w p l) :
    Calls Tryz.prog 43 #[.slice p l.length c] w fun e w' => e = .returned (.int .u32 (Crc.sum l : Nat)) ∧ w' = w := by
  have HU := Lib.hid (update_any 0 (by omega) p c l hl w ht h)
  have HS : Hid (Crc.update 0 l = Crc.sum l) := rfl
  clear h ht
  go_enter Tryz.func43, Tryz.ntmps43
  go_wp2_with fail
  refine HU.out.mono ?_
  rintro e w' ⟨rfl, rfl⟩
  go_wp2
  go_ret
  exact ⟨by rw [← HS.out]; rfl, rfl⟩

theorem sum_eq (l : List UInt8) : Crc.sum l = Crc.take 4294967295 l ^^^ Crc.full := by
  unfold Crc.sum Crc.update
  rw [Nat.zero_xor]; rfl

end Go.Proofs.YtnlhpndjogjejaaGreatDoor

/- Plain facts on numbers written seven bits a byte, without any program: a number's bytes are read as it, whatever stands behind them, and what is read has just these bytes. -/
namespace Go.Proofs.YtnlhpndjogjejaaGreatDoor.Leb

/-- a number's bytes; f: at most so many -/
def putF : Nat → Nat → List UInt8
  | 0, _ => []
  | f + 1, n => if n < 128 then [UInt8.ofNat n] else UInt8.ofNat (n % 128 + 128) :: putF f (n / 128)
def put (n : Nat) : List UInt8 := putF 10 n

/-- what is read: the number and how many bytes it took; 5: bytes that stand for none; 30: they end within -/
structure Got where
  err : Nat
  n : Nat
  k : Nat

/-- f: how many bytes may still come; first: none has come yet -/
def getF : Nat → Bool → List UInt8 → Got
  | 0, _, _ => ⟨5, 0, 0⟩
  | _ + 1, _, [] => ⟨30, 0, 0⟩
  | f + 1, first, c :: r =>
    if 127 < c.toNat then
      let g := getF f false r
      if g.err = 0 then ⟨0, g.n * 128 + c.toNat % 128, g.k + 1⟩ else g
    else if (f = 0 ∧ 1 < c.toNat) ∨ (first = false ∧ c.toNat = 0) then ⟨5, 0, 0⟩ else ⟨0, c.toNat, 1⟩
def get (l : List UInt8) : Got := getF 10 true l

theorem byte_low (n : Nat) (h : n < 128) : (UInt8.ofNat n).toNat = n := by
  rw [UInt8.toNat_ofNat']; omega
theorem byte_high (n : Nat) : (UInt8.ofNat (n % 128 + 128)).toNat = n % 128 + 128 := by
  rw [UInt8.toNat_ofNat']; omega

/-- the greatest number that f bytes hold: ten hold 64 bits -/
def cap (f : Nat) : Nat := if f = 10 then 18446744073709551616 else 128 ^ f

theorem getF_put (f : Nat) (first : Bool) (n : Nat) (r : List UInt8) (h : n < 2 * 128 ^ f) (h0 : first = true ∨ n ≠ 0) : getF (f + 1) first (putF (f + 1) n ++ r) = ⟨0, n, (putF (f + 1) n).length⟩ := by
  induction f generalizing first n with
  | zero =>
    have hn : n < 2 := by simpa using h
    have e : putF 1 n = [UInt8.ofNat n] := by simp only [putF]; rw [if_pos (by omega)]
    rw [e]
    simp only [List.cons_append, List.nil_append, getF, byte_low n (by omega), List.length_cons, List.length_nil]
    rw [if_neg (by omega), if_neg]
    rintro (⟨_, h1⟩ | ⟨h1, h2⟩)
    · omega
    · rcases h0 with h0 | h0
      · rw [h0] at h1; cases h1
      · exact h0 h2
  | succ f ih =>
    by_cases hn : n < 128
    · have e : putF (f + 1 + 1) n = [UInt8.ofNat n] := by simp only [putF]; rw [if_pos hn]
      rw [e]
      simp only [List.cons_append, List.nil_append, getF, byte_low n hn, List.length_cons, List.length_nil]
      rw [if_neg (by omega), if_neg]
      rintro (⟨h1, _⟩ | ⟨h1, h2⟩)
      · omega
      · rcases h0 with h0 | h0
        · rw [h0] at h1; cases h1
        · exact h0 h2
    · have e : putF (f + 1 + 1) n = UInt8.ofNat (n % 128 + 128) :: putF (f + 1) (n / 128) := by
        rw [putF, if_neg hn]
      have h1 : n / 128 < 2 * 128 ^ f := by
        rw [Nat.pow_succ] at h
        rw [Nat.div_lt_iff_lt_mul (by omega)]
        omega
      have hr := ih false (n / 128) h1 (.inr (by omega))
      rw [e]
      rw [List.cons_append, getF]
      simp only [hr, byte_high, List.length_cons]
      rw [if_pos (by omega), if_pos trivial]
      congr 1
      omega

/-- a number's bytes are read as it, whatever stands behind them -/
theorem get_put (n : Nat) (r : List UInt8) (h : n < 18446744073709551616) : get (put n ++ r) = ⟨0, n, (put n).length⟩ := by
  have e : 2 * 128 ^ 9 = 18446744073709551616 := by decide
  exact getF_put 9 true n r (by rw [e]; exact h) (.inl rfl)

/-- what is read has just these bytes -/
theorem getF_ok (f : Nat) (first : Bool) (l : List UInt8) (h : (getF (f + 1) first l).err = 0) :
    (getF (f + 1) first l).n < 2 * 128 ^ f ∧ (first = true ∨ (getF (f + 1) first l).n ≠ 0) ∧ l.take (getF (f + 1) first l).k = putF (f + 1) (getF (f + 1) first l).n ∧ (getF (f + 1) first l).k ≤ l.length ∧ 1 ≤ (getF (f + 1) first l).k := by
  induction f generalizing first l with
  | zero =>
    cases l with
    | nil => simp [getF] at h
    | cons c r =>
      rw [getF] at h ⊢
      by_cases hc : 127 < c.toNat
      · rw [if_pos hc] at h
        simp [getF] at h
      · rw [if_neg hc] at h ⊢
        by_cases hx : (0 = 0 ∧ 1 < c.toNat) ∨ (first = false ∧ c.toNat = 0)
        · rw [if_pos hx] at h; simp at h
        · rw [if_neg hx]
          have c1 : c.toNat < 2 := by omega
          refine ⟨by simpa using c1, ?_, ?_, by simp, by simp⟩
          · cases first
            · right; intro h2; exact hx (.inr ⟨rfl, h2⟩)
            · exact .inl rfl
          · simp only [putF, List.take_succ_cons, List.take_zero]
            rw [if_pos (by omega)]
            congr 1
            exact (UInt8.toNat_inj.1 (byte_low c.toNat (by omega))).symm
  | succ f ih =>
    cases l with
    | nil => simp [getF] at h
    | cons c r =>
      have hc256 : c.toNat < 256 := c.toNat_lt
      rw [getF] at h ⊢
      by_cases hc : 127 < c.toNat
      · rw [if_pos hc] at h ⊢
        simp only at h ⊢
        by_cases hg : (getF (f + 1) false r).err = 0
        · rw [if_pos hg]
          obtain ⟨i1, i2, i3, i4, i5⟩ := ih false r hg
          have i2' : (getF (f + 1) false r).n ≠ 0 := by
            rcases i2 with i2 | i2
            · cases i2
            · exact i2
          generalize getF (f + 1) false r = g at *
          dsimp only
          refine ⟨?_, .inr (by omega), ?_, by simp; omega, by simp⟩
          · rw [Nat.pow_succ]; omega
          · have e1 : (g.n * 128 + c.toNat % 128) / 128 = g.n := by omega
            have e2 : (g.n * 128 + c.toNat % 128) % 128 + 128 = c.toNat := by omega
            rw [putF, if_neg (by omega), e1, e2, List.take_succ_cons, i3]
            congr 1
            apply UInt8.toNat_inj.1
            rw [UInt8.toNat_ofNat']; omega
        · rw [if_neg hg] at h; exact absurd h hg
      · rw [if_neg hc] at h ⊢
        by_cases hx : (f + 1 = 0 ∧ 1 < c.toNat) ∨ (first = false ∧ c.toNat = 0)
        · rw [if_pos hx] at h; simp at h
        · rw [if_neg hx]
          have hp : 128 ≤ 128 ^ (f + 1) := by
            have := Nat.pow_le_pow_right (show 0 < 128 by omega) (show 1 ≤ f + 1 by omega)
            simpa using this
          refine ⟨by simp only; omega, ?_, ?_, by simp, by simp⟩
          · cases first
            · right; intro h2; exact hx (.inr ⟨rfl, h2⟩)
            · exact .inl rfl
          · simp only [putF, List.take_succ_cons, List.take_zero]
            rw [if_pos (by omega)]
            congr 1
            exact (UInt8.toNat_inj.1 (byte_low c.toNat (by omega))).symm

theorem get_ok (l : List UInt8) (h : (get l).err = 0) : (get l).n < 18446744073709551616 ∧ l.take (get l).k = put (get l).n ∧ (get l).k ≤ l.length ∧ 1 ≤ (get l).k := by
  have e : 2 * 128 ^ 9 = 18446744073709551616 := by decide
  obtain ⟨h1, _, h3, h4, h5⟩ := getF_ok 9 true l h
  rw [e] at h1
  exact ⟨h1, h3, h4, h5⟩

/-- where it is refused, nothing is told -/
theorem getF_bad (f : Nat) : ∀ (first : Bool) (l : List UInt8), (getF f first l).err ≠ 0 → (getF f first l).n = 0 ∧ (getF f first l).k = 0 := by
  induction f with
  | zero => intro first l _; exact ⟨rfl, rfl⟩
  | succ f ih =>
    intro first l h
    cases l with
    | nil => exact ⟨rfl, rfl⟩
    | cons c r =>
      rw [getF] at h ⊢
      by_cases hc : 127 < c.toNat
      · rw [if_pos hc] at h ⊢
        simp only at h ⊢
        by_cases hg : (getF f false r).err = 0
        · rw [if_pos hg] at h; exact absurd rfl h
        · rw [if_neg hg]; exact ih false r hg
      · rw [if_neg hc] at h ⊢
        by_cases hx : (f = 0 ∧ 1 < c.toNat) ∨ (first = false ∧ c.toNat = 0)
        · rw [if_pos hx]; exact ⟨rfl, rfl⟩
        · rw [if_neg hx] at h; exact absurd rfl h

/-- of unlike numbers neither's bytes begin the other's -/
theorem put_prefix {n m : Nat} {r : List UInt8} (hn : n < 18446744073709551616) (hm : m < 18446744073709551616) (h : put m = put n ++ r) : n = m := by
  have h1 := get_put n r hn
  have h2 := get_put m [] hm
  rw [List.append_nil, h, h1] at h2
  exact congrArg Got.n h2

theorem putF_pos (f n : Nat) : 1 ≤ (putF (f + 1) n).length := by
  rw [putF]; split <;> simp
theorem putF_le (f : Nat) : ∀ n, (putF f n).length ≤ f := by
  induction f with
  | zero => intro n; simp [putF]
  | succ f ih => intro n; rw [putF]; split <;> simp; exact ih _
/-- lesser numbers have no more bytes -/
theorem putF_mono (f : Nat) : ∀ n m, n ≤ m → (putF f n).length ≤ (putF f m).length := by
  induction f with
  | zero => intro n m _; simp [putF]
  | succ f ih =>
    intro n m h
    rw [putF, putF]
    by_cases h1 : m < 128
    · rw [if_pos (by omega), if_pos h1]; simp
    · rw [if_neg h1]
      by_cases h2 : n < 128
      · rw [if_pos h2]; simp
      · rw [if_neg h2]
        simp only [List.length_cons]
        have := ih (n / 128) (m / 128) (Nat.div_le_div_right h)
        omega

/-- a number with a sign, and back -/
def zig (n : Int) : Nat := if 0 ≤ n then 2 * n.toNat else 2 * (-(n + 1)).toNat + 1
def zag (u : Nat) : Int := if u % 2 = 0 then ((u / 2 : Nat) : Int) else -((u / 2 : Nat) : Int) - 1
theorem zag_zig (n : Int) : zag (zig n) = n := by
  unfold zig
  split
  · unfold zag; rw [if_pos (by omega)]; omega
  · unfold zag; rw [if_neg (by omega)]; omega
theorem zig_zag (u : Nat) : zig (zag u) = u := by
  unfold zag
  split
  · unfold zig; rw [if_pos (by omega)]; omega
  · unfold zig; rw [if_neg (by omega)]; omega

/-- the bits that bytes come to, the first byte's lowest -/
def val : List UInt8 → Nat
  | [] => 0
  | c :: r => val r * 128 + c.toNat % 128

/-- how many bytes of 128 or above stand first, of at most f -/
def high : Nat → List UInt8 → Nat
  | 0, _ => 0
  | _ + 1, [] => 0
  | f + 1, c :: r => if 127 < c.toNat then high f r + 1 else 0

theorem high_le (f : Nat) : ∀ r : List UInt8, high f r ≤ f ∧ high f r ≤ r.length := by
  induction f with
  | zero => intro r; simp [high]
  | succ f ih =>
    intro r
    cases r with
    | nil => simp [high]
    | cons c r =>
      rw [high]
      have := ih r
      split <;> simp <;> omega

theorem high_above (f : Nat) : ∀ (r : List UInt8) (j : Nat) (h : j < r.length), j < high f r → 127 < r[j].toNat := by
  induction f with
  | zero => intro r j h hj; simp [high] at hj
  | succ f ih =>
    intro r j h hj
    cases r with
    | nil => simp at h
    | cons c r =>
      rw [high] at hj
      by_cases hc : 127 < c.toNat
      · rw [if_pos hc] at hj
        cases j with
        | zero => exact hc
        | succ j => exact ih r j (by simpa using h) (by omega)
      · rw [if_neg hc] at hj; omega

theorem high_stop (f : Nat) : ∀ (r : List UInt8) (h : high f r < r.length), high f r < f → ¬ 127 < (r[high f r]).toNat := by
  induction f with
  | zero => intro r h hf; omega
  | succ f ih =>
    intro r h hf
    cases r with
    | nil => simp at h
    | cons c r =>
      by_cases hc : 127 < c.toNat
      · have e : high (f + 1) (c :: r) = high f r + 1 := by rw [high, if_pos hc]
        simp only [e] at h hf ⊢
        simp only [List.getElem_cons_succ]
        exact ih r (by simpa using h) (by omega)
      · have e : high (f + 1) (c :: r) = 0 := by rw [high, if_neg hc]
        simp only [e, List.getElem_cons_zero]
        exact hc

/-- what stands first tells how many: all k of them high, the next one not, or none left -/
theorem high_eq (f : Nat) : ∀ (r : List UInt8) (k : Nat), k ≤ f → (hk : k ≤ r.length) → (∀ j (h : j < r.length), j < k → 127 < r[j].toNat) → (k = f ∨ k = r.length ∨ ∃ h : k < r.length, ¬ 127 < r[k].toNat) → high f r = k := by
  induction f with
  | zero => intro r k h1 _ _ _; simp [high]; omega
  | succ f ih =>
    intro r k h1 h2 h3 h4
    cases r with
    | nil => simp at h2; simp [high]; omega
    | cons c r =>
      cases k with
      | zero =>
        rcases h4 with h4 | h4 | ⟨h4, h5⟩
        · omega
        · simp at h4
        · have h6 : ¬ 127 < c.toNat := h5
          rw [high, if_neg h6]
      | succ k =>
        have hc : 127 < c.toNat := h3 0 (by simp) (by omega)
        rw [high, if_pos hc, ih r k (by omega) (by simpa using h2) (fun j h hj => by
          have := h3 (j + 1) (by simpa using h) (by omega)
          simpa using this) ?_]
        rcases h4 with h4 | h4 | ⟨h4, h5⟩
        · exact .inl (by omega)
        · exact .inr (.inl (by simpa using h4))
        · exact .inr (.inr ⟨by simpa using h4, by simpa using h5⟩)

/-- reading, told by how many high bytes stand first -/
theorem getF_high (f : Nat) : ∀ (first : Bool) (r : List UInt8),
    (high f r = f → getF f first r = ⟨5, 0, 0⟩) ∧
    (high f r = r.length → high f r < f → getF f first r = ⟨30, 0, 0⟩) ∧
    (∀ h : high f r < r.length, high f r < f → getF f first r = if (high f r + 1 = f ∧ 1 < (r[high f r]).toNat) ∨ ((first = false ∨ 0 < high f r) ∧ (r[high f r]).toNat = 0) then ⟨5, 0, 0⟩ else ⟨0, val (r.take (high f r + 1)), high f r + 1⟩) := by
  induction f with
  | zero => intro first r; exact ⟨fun _ => rfl, fun _ h => by omega, fun _ h => by omega⟩
  | succ f ih =>
    intro first r
    cases r with
    | nil => exact ⟨fun h => by simp [high] at h, fun _ _ => rfl, fun h => by simp at h⟩
    | cons c r =>
      by_cases hc : 127 < c.toNat
      · have e : high (f + 1) (c :: r) = high f r + 1 := by rw [high, if_pos hc]
        obtain ⟨i1, i2, i3⟩ := ih false r
        rw [e]
        refine ⟨fun h => ?_, fun h h' => ?_, fun h h' => ?_⟩
        · rw [getF, if_pos hc]; simp only; rw [i1 (by omega)]; rfl
        · rw [getF, if_pos hc]; simp only; rw [i2 (by simpa using h) (by omega)]; rfl
        · have hr : high f r < r.length := by simpa using h
          have hb := high_stop f r hr (by omega)
          by_cases hx : (high f r + 1 = f ∧ 1 < (r[high f r]).toNat) ∨ ((false = false ∨ 0 < high f r) ∧ (r[high f r]).toNat = 0)
          · have i4 : getF f false r = ⟨5, 0, 0⟩ := by rw [i3 hr (by omega), if_pos hx]
            have hy : (high f r + 1 + 1 = f + 1 ∧ 1 < (r[high f r]).toNat) ∨ ((first = false ∨ 0 < high f r + 1) ∧ (r[high f r]).toNat = 0) := by
              rcases hx with ⟨x1, x2⟩ | ⟨_, x2⟩
              · exact .inl ⟨by omega, x2⟩
              · exact .inr ⟨.inr (by omega), x2⟩
            rw [getF, if_pos hc]
            simp only [i4, List.getElem_cons_succ]
            rw [if_pos hy]
            rfl
          · have i4 : getF f false r = ⟨0, val (r.take (high f r + 1)), high f r + 1⟩ := by rw [i3 hr (by omega), if_neg hx]
            have hy : ¬ ((high f r + 1 + 1 = f + 1 ∧ 1 < (r[high f r]).toNat) ∨ ((first = false ∨ 0 < high f r + 1) ∧ (r[high f r]).toNat = 0)) := by
              rintro (⟨x1, x2⟩ | ⟨_, x2⟩)
              · exact hx (.inl ⟨by omega, x2⟩)
              · exact hx (.inr ⟨.inl rfl, x2⟩)
            rw [getF, if_pos hc]
            simp only [i4, List.getElem_cons_succ]
            rw [if_neg hy]
            simp [val]
      · have e : high (f + 1) (c :: r) = 0 := by rw [high, if_neg hc]
        rw [e]
        refine ⟨fun h => by omega, fun h _ => by simp at h, fun h h' => ?_⟩
        rw [getF, if_neg hc]
        simp only [List.getElem_cons_zero]
        by_cases hx : (f = 0 ∧ 1 < c.toNat) ∨ (first = false ∧ c.toNat = 0)
        · rw [if_pos hx, if_pos]
          rcases hx with ⟨x1, x2⟩ | ⟨x1, x2⟩
          · exact .inl ⟨by omega, x2⟩
          · exact .inr ⟨.inl x1, x2⟩
        · rw [if_neg hx, if_neg]
          · have : c.toNat % 128 = c.toNat := by omega
            simp [val, this]
          · rintro (⟨x1, x2⟩ | ⟨x1 | x1, x2⟩)
            · exact hx (.inl ⟨by omega, x2⟩)
            · exact hx (.inr ⟨x1, x2⟩)
            · omega

theorem val_drop_le : ∀ (r : List UInt8) (i : Nat), val (r.drop i) ≤ val r
  | [], i => by simp [val]
  | c :: r, 0 => by simp
  | c :: r, i + 1 => by
    have := val_drop_le r i
    simp only [List.drop_succ_cons, val]
    omega
theorem val_drop (r : List UInt8) (i : Nat) (h : i < r.length) : val (r.drop i) = val (r.drop (i + 1)) * 128 + r[i].toNat % 128 := by
  rw [List.drop_eq_getElem_cons h, val]

/-- what is read at a place -/
def getAt (l : List UInt8) (at_ : Int) : Got := if at_ < 0 then ⟨30, 0, 0⟩ else get (l.drop at_.toNat)
/-- the place behind it -/
def nextAt (l : List UInt8) (at_ : Int) : Int := if (getAt l at_).err = 0 then at_ + (getAt l at_).k else 0

theorem put_length_le (n : Nat) : (put n).length ≤ 10 := putF_le 10 n
theorem put_length_pos (n : Nat) : 1 ≤ (put n).length := putF_pos 9 n
end Go.Proofs.YtnlhpndjogjejaaGreatDoor.Leb

/- The walks of package real's and the document's Fix, Bits, Same (wip/real/WFix.lean.t over a dump that lists no variable). -/
namespace Go.Proofs.YtnlhpndjogjejaaGreatDoor
open Go.RowKit

/-- x != x -/
def nanB (x : Nat) : Bool := FloatKind.f64.format.order x x != some .eq
/-- the bits, with the one NaN -/
def fixB (x : Nat) : Nat := if nanB x then 9221120237041090560 else x

theorem nan_t {x : Nat} (h : nanB x = true) : (FloatKind.f64.format.order x x != some .eq) = true := h
theorem nan_f {x : Nat} (h : nanB x = false) : (FloatKind.f64.format.order x x != some .eq) = false := h
theorem fix_t {x : Nat} (h : nanB x = true) : fixB x = 9221120237041090560 := by simp [fixB, h]
theorem fix_f {x : Nat} (h : nanB x = false) : fixB x = x := by simp [fixB, h]

theorem run_frombits (x : Int) (w : World) : (callFunc 93 #[.int .u64 x]).run Tryz.prog w = .ok (.value (.float .f64 x.toNat)) w := by kernel_rfl
theorem run_bits (x : Nat) (w : World) : (callFunc 37 #[.float .f64 x]).run Tryz.prog w = .ok (.value (.int .u64 x)) w := by kernel_rfl
attribute [local go_sem] run_frombits run_bits

set_option maxHeartbeats 400000 in
theorem isNaN_any (x : Nat) (w : World) :
    Calls Tryz.prog 99 #[.float .f64 x] w fun e w' => e = .returned (.bool (nanB x)) ∧ w' = w := by
  go_enter Tryz.func99, Tryz.ntmps99
  go_wp2
  go_ret
  exact ⟨rfl, rfl⟩

set_option maxHeartbeats 400000 in
theorem realFix_any (x : Nat) (w : World) :
    Calls Tryz.prog 97 #[.float .f64 x] w fun e w' => e = .returned (.float .f64 (fixB x)) ∧ w' = w := by
  cases h : nanB x
  · have h' := nan_f h
    rw [fix_f h]
    clear h
    go_enter Tryz.func97, Tryz.ntmps97
    go_wp2
    go_ret
    exact ⟨rfl, rfl⟩
  · have h' := nan_t h
    rw [fix_t h]
    clear h
    go_enter Tryz.func97, Tryz.ntmps97
    go_wp2
    go_ret
    exact ⟨rfl, rfl⟩

set_option maxHeartbeats 400000 in
theorem refFix_any (x : Nat) (w : World) :
    Calls Tryz.prog 92 #[.float .f64 x] w fun e w' => e = .returned (.float .f64 (fixB x)) ∧ w' = w := by
  cases h : nanB x
  · have h' := nan_f h
    rw [fix_f h]
    clear h
    go_enter Tryz.func92, Tryz.ntmps92
    go_wp2
    go_ret
    exact ⟨rfl, rfl⟩
  · have h' := nan_t h
    rw [fix_t h]
    clear h
    go_enter Tryz.func92, Tryz.ntmps92
    go_wp2
    go_ret
    exact ⟨rfl, rfl⟩

set_option maxHeartbeats 400000 in
theorem refBits_any (x : Nat) (w : World) :
    Calls Tryz.prog 64 #[.float .f64 x] w fun e w' => e = .returned (.int .u64 (fixB x)) ∧ w' = w := by
  cases h : nanB x
  · have h' := nan_f h
    rw [fix_f h]
    clear h
    go_enter Tryz.func64, Tryz.ntmps64
    go_wp2
    go_ret
    exact ⟨rfl, rfl⟩
  · have h' := nan_t h
    rw [fix_t h]
    clear h
    go_enter Tryz.func64, Tryz.ntmps64
    go_wp2
    go_ret
    exact ⟨rfl, rfl⟩

set_option maxHeartbeats 400000 in
theorem realBits_any (x : Nat) (w : World) :
    Calls Tryz.prog 95 #[.float .f64 x] w fun e w' => e = .returned (.int .u64 (fixB x)) ∧ w' = w := by
  go_enter Tryz.func95, Tryz.ntmps95
  go_wp2_with (go_at_call 97; refine (realFix_any _ _).mono ?_; rintro e w' ⟨rfl, rfl⟩)
  go_ret
  exact ⟨rfl, rfl⟩

set_option maxHeartbeats 400000 in
theorem realOf_any (x : Int) (w : World) :
    Calls Tryz.prog 94 #[.int .u64 x] w fun e w' => e = .returned (.float .f64 (fixB x.toNat)) ∧ w' = w := by
  go_enter Tryz.func94, Tryz.ntmps94
  go_wp2_with (go_at_call 97; refine (realFix_any _ _).mono ?_; rintro e w' ⟨rfl, rfl⟩)
  go_ret
  exact ⟨rfl, rfl⟩

set_option maxHeartbeats 400000 in
theorem refOf_any (x : Int) (w : World) :
    Calls Tryz.prog 83 #[.int .u64 x] w fun e w' => e = .returned (.float .f64 (fixB x.toNat)) ∧ w' = w := by
  go_enter Tryz.func83, Tryz.ntmps83
  go_wp2_with (go_at_call 92; refine (refFix_any _ _).mono ?_; rintro e w' ⟨rfl, rfl⟩)
  go_ret
  exact ⟨rfl, rfl⟩

set_option maxHeartbeats 400000 in
theorem realSame_any (x y : Nat) (w : World) :
    Calls Tryz.prog 140 #[.float .f64 x, .float .f64 y] w fun e w' => e = .returned (.bool ((fixB x : Int) == (fixB y : Int))) ∧ w' = w := by
  go_enter Tryz.func140, Tryz.ntmps140
  go_wp2_with (go_at_call 95; refine (realBits_any _ _).mono ?_; rintro e w' ⟨rfl, rfl⟩)
  go_ret
  exact ⟨rfl, rfl⟩

set_option maxHeartbeats 400000 in
theorem refSame_any (x y : Nat) (w : World) :
    Calls Tryz.prog 55 #[.float .f64 x, .float .f64 y] w fun e w' => e = .returned (.bool ((fixB x : Int) == (fixB y : Int))) ∧ w' = w := by
  go_enter Tryz.func55, Tryz.ntmps55
  go_wp2_with (go_at_call 64; refine (refBits_any _ _).mono ?_; rintro e w' ⟨rfl, rfl⟩)
  go_ret
  exact ⟨rfl, rfl⟩

end Go.Proofs.YtnlhpndjogjejaaGreatDoor

/- Plain: values, as trees; what the document says of them. -/
namespace Go.Proofs.YtnlhpndjogjejaaGreatDoor

/-- a value -/
structure V where
  kind : Int
  int : Int
  bits : Nat
  text : ByteArray
  items : List V

namespace V
/-- what holds of each value if it holds of one whenever it holds of its items -/
theorem ind {P : V → Prop} (h : ∀ k i b t xs, (∀ x ∈ xs, P x) → P (.mk k i b t xs)) : ∀ v, P v := fun v =>
  V.rec (motive_1 := P) (motive_2 := fun xs => ∀ x ∈ xs, P x) (fun k i b t xs ih => h k i b t xs ih) (fun x hx => by cases hx)
    (fun x xs hx hxs y hy => by
      rcases List.mem_cons.1 hy with rfl | hy
      · exact hx
      · exact hxs y hy) v

/-- each float fixed -/
def fix (v : V) : V := match v with
  | .mk k i b t xs => .mk k i (fixB b) t (xs.map fix)
def fixL (xs : List V) : List V := xs.map fix
theorem fix_mk (k i : Int) (b : Nat) (t : ByteArray) (xs : List V) : fix (.mk k i b t xs) = .mk k i (fixB b) t (fixL xs) := by rw [fix, fixL]
theorem fixL_eq (xs : List V) : fixL xs = xs.map fix := rfl

/-- each item as its test says -/
def eqL : List (V → Bool) → List V → Bool
  | [], [] => true
  | f :: fs, y :: ys => f y && eqL fs ys
  | _, _ => false
/-- floats bit by bit -/
def exact (v : V) : V → Bool := match v with
  | .mk k i b t xs => fun y => k == y.kind && i == y.int && decide (t = y.text) && b == y.bits && eqL (xs.map exact) y.items
def exactL (xs ys : List V) : Bool := eqL (xs.map exact) ys
theorem exact_mk (k i : Int) (b : Nat) (t : ByteArray) (xs : List V) (k' i' : Int) (b' : Nat) (t' : ByteArray) (ys : List V) : exact (.mk k i b t xs) (.mk k' i' b' t' ys) = (k == k' && i == i' && decide (t = t') && b == b' && exactL xs ys) := by rw [exact, exactL]
theorem exactL_nil : exactL [] [] = true := rfl
theorem exactL_cons (x : V) (r : List V) (y : V) (s : List V) : exactL (x :: r) (y :: s) = (exact x y && exactL r s) := rfl
theorem exactL_nc (y : V) (s : List V) : exactL [] (y :: s) = false := rfl
theorem exactL_cn (x : V) (r : List V) : exactL (x :: r) [] = false := rfl
/-- P6.3 -/
def same (v : V) : V → Bool := match v with
  | .mk k i b t xs => fun y => k == y.kind && i == y.int && decide (t = y.text) && fixB b == fixB y.bits && eqL (xs.map same) y.items
def sameL (xs ys : List V) : Bool := eqL (xs.map same) ys
theorem same_mk (k i : Int) (b : Nat) (t : ByteArray) (xs : List V) (k' i' : Int) (b' : Nat) (t' : ByteArray) (ys : List V) : same (.mk k i b t xs) (.mk k' i' b' t' ys) = (k == k' && i == i' && decide (t = t') && fixB b == fixB b' && sameL xs ys) := by rw [same, sameL]
theorem sameL_nil : sameL [] [] = true := rfl
theorem sameL_cons (x : V) (r : List V) (y : V) (s : List V) : sameL (x :: r) (y :: s) = (same x y && sameL r s) := rfl
theorem sameL_nc (y : V) (s : List V) : sameL [] (y :: s) = false := rfl
theorem sameL_cn (x : V) (r : List V) : sameL (x :: r) [] = false := rfl

/-- a field that is not the kind's is zero -/
def ownB (k i : Int) (b : Nat) (t : ByteArray) (n : Nat) : Bool :=
  decide (1 ≤ k ∧ k ≤ 7) && (k == 1 || k == 2 || i == 0) && (k == 3 || fixB b == 0) && (k == 4 || k == 5 || decide (t.toList = [])) && (k == 6 || k == 7 || n == 0) && (k != 1 || i == 0 || i == 1) && (k != 6 || decide (n < 2))
def own : V → Bool
  | .mk k i b t xs => ownB k i b t xs.length

/-- the first error of some -/
def first : List Nat → Nat
  | [] => 0
  | e :: r => if e = 0 then first r else e
/-- P6.1; utf: which texts are right -/
def check (utf : ByteArray → Bool) (d : Nat) (v : V) : Nat := match v with
  | .mk k i b t xs => if 4 < d then 62 else if own (.mk k i b t xs) = false then 60 else if 1024 < t.size then 2 else if 256 < xs.length then 3 else if k = 4 ∧ utf t = false then 61 else first (xs.map (check utf (d + 1)))
def checkL (utf : ByteArray → Bool) (d : Nat) (xs : List V) : Nat := first (xs.map (check utf d))
theorem check_mk (utf : ByteArray → Bool) (d : Nat) (k i : Int) (b : Nat) (t : ByteArray) (xs : List V) : check utf d (.mk k i b t xs) = if 4 < d then 62 else if own (.mk k i b t xs) = false then 60 else if 1024 < t.size then 2 else if 256 < xs.length then 3 else if k = 4 ∧ utf t = false then 61 else checkL utf (d + 1) xs := by rw [check, checkL]
theorem checkL_nil (utf : ByteArray → Bool) (d : Nat) : checkL utf d [] = 0 := rfl
theorem checkL_cons (utf : ByteArray → Bool) (d : Nat) (x : V) (r : List V) : checkL utf d (x :: r) = if check utf d x = 0 then checkL utf d r else check utf d x := rfl

theorem exact_iff : ∀ a b : V, exact a b = true ↔ a = b := by
  intro a
  refine V.ind (P := fun a => ∀ b, exact a b = true ↔ a = b) ?_ a
  intro k i b t xs ih c
  have hL : ∀ (xs ys : List V), (∀ x ∈ xs, ∀ b, exact x b = true ↔ x = b) → (exactL xs ys = true ↔ xs = ys) := by
    intro xs
    induction xs with
    | nil => intro ys _; cases ys <;> simp [exactL_nil, exactL_nc]
    | cons x r ihr =>
      intro ys hx
      cases ys with
      | nil => simp [exactL_cn]
      | cons y s =>
        simp only [exactL_cons, Bool.and_eq_true, List.cons.injEq]
        rw [hx x (by simp) y, ihr s (fun z hz => hx z (by simp [hz]))]
  cases c with
  | mk k' i' b' t' ys =>
    simp only [exact_mk, Bool.and_eq_true, beq_iff_eq, decide_eq_true_eq, V.mk.injEq]
    rw [hL xs ys ih]
    constructor
    · rintro ⟨⟨⟨⟨h1, h2⟩, h3⟩, h4⟩, h5⟩; exact ⟨h1, h2, h4, h3, h5⟩
    · rintro ⟨h1, h2, h3, h4, h5⟩; exact ⟨⟨⟨⟨h1, h2⟩, h4⟩, h3⟩, h5⟩
theorem sameL_len : ∀ (xs ys : List V), sameL xs ys = true → xs.length = ys.length
  | [], [], _ => rfl
  | x :: r, y :: s, h => by
    simp only [sameL_cons, Bool.and_eq_true] at h
    simp [sameL_len r s h.2]
  | [], y :: s, h => by simp [sameL_nc] at h
  | x :: r, [], h => by simp [sameL_cn] at h
end V
end Go.Proofs.YtnlhpndjogjejaaGreatDoor

/- How a value lies in memory. -/
namespace Go.Proofs.YtnlhpndjogjejaaGreatDoor
open Go.RowKit

theorem below_via {B : Nat} {w wa W : World} (hb : Below B wa W) (h1 : wa.os = w.os) (h2 : wa.tape = w.tape) (h3 : wa.output = w.output) (h4 : wa.heap = w.heap) : Below B w W :=
  Below.trans ⟨h1, h2, h3, by rw [h4]; exact Nat.le_refl _, fun k _ => by rw [h4]⟩ hb
/-- a cell that is there stays -/
theorem cell_on {w w' : World} {p : Addr} {v : Value} (hb : Below w.heap.size w w') (h : w.cell? p = some v) : w'.cell? p = some v := by
  rw [hb.cell (World.block_lt_of_cell? _ _ h)]; exact h

/-- a value's five cells -/
def cells5 (k i : Int) (b : Nat) (t : ByteArray) (p : Option Addr) (n c : Nat) : Array Value := #[.int .i64 k, .int .i64 i, .float .f64 b, .string t, .slice p n c]

/-- one step of how a value lies: its items, of which P holds, in the block that its slice names -/
def VStep (w : World) (P : Array Value → V → Prop) (p : Option Addr) (c : Nat) (xs : List V) (us : Nat → Array Value) : Prop :=
  xs.length * 64 ≤ 140737488351232 ∧ xs.length ≤ c ∧ (xs ≠ [] → ∃ blk off, p = some ⟨blk, off, none⟩ ∧ blk < w.heap.size ∧ ∀ j, j < xs.length → ∀ m, m < 5 → w.cell? ⟨blk, off + j * 5 + m, none⟩ = (us j)[m]?) ∧ ∀ j (h : j < xs.length), P (us j) xs[j]
/-- so a value lies -/
def VLies (w : World) (u : Array Value) (x : V) : Prop :=
  ∀ P : Array Value → V → Prop, (∀ k i b t p c xs us, VStep w P p c xs us → P (cells5 k i b t p xs.length c) (.mk k i b t xs)) → P u x
theorem VLies.mk {w : World} {k i : Int} {b : Nat} {t : ByteArray} {p : Option Addr} {c : Nat} {xs : List V} (us : Nat → Array Value) (hl : xs.length * 64 ≤ 140737488351232) (hc : xs.length ≤ c)
    (hp : xs ≠ [] → ∃ blk off, p = some ⟨blk, off, none⟩ ∧ blk < w.heap.size ∧ ∀ j, j < xs.length → ∀ m, m < 5 → w.cell? ⟨blk, off + j * 5 + m, none⟩ = (us j)[m]?)
    (hr : ∀ j (h : j < xs.length), VLies w (us j) xs[j]) : VLies w (cells5 k i b t p xs.length c) (.mk k i b t xs) :=
  fun P hP => hP k i b t p c xs us ⟨hl, hc, hp, fun j h => hr j h P hP⟩
theorem VLies.inv {w : World} {u : Array Value} {x : V} (h : VLies w u x) : ∃ k i b t p c xs us, u = cells5 k i b t p xs.length c ∧ x = .mk k i b t xs ∧ VStep w (VLies w) p c xs us := by
  have := h (fun u x => VLies w u x ∧ ∃ k i b t p c xs us, u = cells5 k i b t p xs.length c ∧ x = .mk k i b t xs ∧ VStep w (VLies w) p c xs us) (fun k i b t p c xs us ⟨h1, h2, h3, h4⟩ =>
    ⟨.mk us h1 h2 h3 (fun j hj => (h4 j hj).1), k, i, b, t, p, c, xs, us, rfl, rfl, h1, h2, h3, fun j hj => (h4 j hj).1⟩)
  exact this.2

theorem VLies.on {w w' : World} {u : Array Value} {v : V} (h : VLies w u v) (hb : Below w.heap.size w w') : VLies w' u v := by
  refine h (VLies w') ?_
  rintro k i b t p c xs us ⟨hl, hc, hp, ih⟩
  refine .mk us hl hc (fun hne => ?_) ih
  obtain ⟨blk, off, h1, h2, h3⟩ := hp hne
  refine ⟨blk, off, h1, by have := hb.size; omega, fun j hj m hm => ?_⟩
  rw [hb.cell (p := ⟨blk, off + j * 5 + m, none⟩) h2]
  exact h3 j hj m hm

/-- one item of it: where it lies -/
structure Item (w : World) (p : Option Addr) (j : Nat) (u : Array Value) : Prop where
  lies : ∃ blk off k i b t q n c, p = some ⟨blk, off, none⟩ ∧ blk < w.heap.size ∧ u = cells5 k i b t q n c ∧ w.cell? ⟨blk, off + j * 5, none⟩ = some (.int .i64 k) ∧ w.cell? ⟨blk, off + j * 5 + 1, none⟩ = some (.int .i64 i) ∧ w.cell? ⟨blk, off + j * 5 + 2, none⟩ = some (.float .f64 b) ∧ w.cell? ⟨blk, off + j * 5 + 3, none⟩ = some (.string t) ∧ w.cell? ⟨blk, off + j * 5 + 4, none⟩ = some (.slice q n c)

theorem VLies.open {w : World} {u : Array Value} {k i : Int} {b : Nat} {t : ByteArray} {xs : List V} (h : VLies w u (.mk k i b t xs)) :
    ∃ p c, u = cells5 k i b t p xs.length c ∧ xs.length * 64 ≤ 140737488351232 ∧ xs.length ≤ c ∧ ∀ j (hj : j < xs.length), ∃ u', VLies w u' xs[j] ∧ Item w p j u' := by
  obtain ⟨k0, i0, b0, t0, p, c, xs0, us, rfl, hx, hl, hc, hp, hr⟩ := h.inv
  simp only [V.mk.injEq] at hx
  obtain ⟨rfl, rfl, rfl, rfl, rfl⟩ := hx
  refine ⟨p, c, rfl, hl, hc, fun j hj => ⟨us j, hr j hj, ?_⟩⟩
  obtain ⟨blk, off, h1, h2, h3⟩ := hp (fun hc => by rw [hc] at hj; simp at hj)
  obtain ⟨k', i', b', t', q, c', ys, us', hu, -, -⟩ := (hr j hj).inv
  have g := fun m hm => h3 j hj m hm
  rw [hu] at g ⊢
  exact ⟨blk, off, k', i', b', t', q, ys.length, c', h1, h2, rfl, g 0 (by omega), g 1 (by omega), g 2 (by omega), g 3 (by omega), g 4 (by omega)⟩
theorem Item.on {w w' : World} {p : Option Addr} {j : Nat} {u : Array Value} (h : Item w p j u) (hb : Below w.heap.size w w') : Item w' p j u := by
  obtain ⟨blk, off, k, i, b, t, q, n, c, h1, h2, h3, g0, g1, g2, g3, g4⟩ := h.lies
  refine ⟨⟨blk, off, k, i, b, t, q, n, c, h1, by have := hb.size; omega, h3, ?_, ?_, ?_, ?_, ?_⟩⟩
  · rw [hb.cell (p := ⟨blk, off + j * 5, none⟩) h2]; exact g0
  · rw [hb.cell (p := ⟨blk, off + j * 5 + 1, none⟩) h2]; exact g1
  · rw [hb.cell (p := ⟨blk, off + j * 5 + 2, none⟩) h2]; exact g2
  · rw [hb.cell (p := ⟨blk, off + j * 5 + 3, none⟩) h2]; exact g3
  · rw [hb.cell (p := ⟨blk, off + j * 5 + 4, none⟩) h2]; exact g4
end Go.Proofs.YtnlhpndjogjejaaGreatDoor

/- Plain: types, as trees; what the document says of them (P7.1, P7.4). -/
namespace Go.Proofs.YtnlhpndjogjejaaGreatDoor

/-- a type -/
structure Ty where
  kind : Int
  of : List Ty

namespace Ty
theorem ind {P : Ty → Prop} (h : ∀ k xs, (∀ x ∈ xs, P x) → P (.mk k xs)) : ∀ v, P v := fun v =>
  Ty.rec (motive_1 := P) (motive_2 := fun xs => ∀ x ∈ xs, P x) (fun k xs ih => h k xs ih) (fun x hx => by cases hx)
    (fun x xs hx hxs y hy => by
      rcases List.mem_cons.1 hy with rfl | hy
      · exact hx
      · exact hxs y hy) v

/-- each item as its test says -/
def eqL : List (Ty → Bool) → List Ty → Bool
  | [], [] => true
  | f :: fs, y :: ys => f y && eqL fs ys
  | _, _ => false
/-- P7.4 -/
def same (v : Ty) : Ty → Bool := match v with
  | .mk k xs => fun y => k == y.kind && eqL (xs.map same) y.of
def sameL (xs ys : List Ty) : Bool := eqL (xs.map same) ys
theorem same_mk (k : Int) (xs : List Ty) (k' : Int) (ys : List Ty) : same (.mk k xs) (.mk k' ys) = (k == k' && sameL xs ys) := by rw [same, sameL]
theorem sameL_nil : sameL [] [] = true := rfl
theorem sameL_cons (x : Ty) (r : List Ty) (y : Ty) (s : List Ty) : sameL (x :: r) (y :: s) = (same x y && sameL r s) := rfl
theorem sameL_nc (y : Ty) (s : List Ty) : sameL [] (y :: s) = false := rfl
theorem sameL_cn (x : Ty) (r : List Ty) : sameL (x :: r) [] = false := rfl
theorem sameL_ne : ∀ (xs ys : List Ty), xs.length ≠ ys.length → sameL xs ys = false
  | [], [], h => absurd rfl h
  | [], _ :: _, _ => rfl
  | _ :: _, [], _ => rfl
  | x :: r, y :: s, h => by rw [sameL_cons, sameL_ne r s (by simpa using h), Bool.and_false]
theorem sameL_at : ∀ (xs ys : List Ty) (j : Nat) (h1 : j < xs.length) (h2 : j < ys.length), same xs[j] ys[j] = false → sameL xs ys = false
  | x :: r, y :: s, 0, _, _, h => by rw [sameL_cons]; simp at h; rw [h, Bool.false_and]
  | x :: r, y :: s, j + 1, h1, h2, h => by rw [sameL_cons, sameL_at r s j (by simpa using h1) (by simpa using h2) (by simpa using h), Bool.and_false]
theorem sameL_all : ∀ (xs ys : List Ty), xs.length = ys.length → (∀ j (h1 : j < xs.length) (h2 : j < ys.length), same xs[j] ys[j] = true) → sameL xs ys = true
  | [], [], _, _ => rfl
  | [], _ :: _, h, _ => by simp at h
  | _ :: _, [], h, _ => by simp at h
  | x :: r, y :: s, h, ha => by
    rw [sameL_cons, sameL_all r s (by simpa using h) (fun j h1 h2 => by have := ha (j + 1) (by simpa using h1) (by simpa using h2); simpa using this)]
    have := ha 0 (by simp) (by simp)
    simp at this
    rw [this]; rfl
theorem same_iff : ∀ a b : Ty, same a b = true ↔ a = b := by
  intro a
  refine Ty.ind (P := fun a => ∀ b, same a b = true ↔ a = b) ?_ a
  intro k xs ih c
  have hL : ∀ (xs ys : List Ty), (∀ x ∈ xs, ∀ b, same x b = true ↔ x = b) → (sameL xs ys = true ↔ xs = ys) := by
    intro xs
    induction xs with
    | nil => intro ys _; cases ys <;> simp [sameL_nil, sameL_nc]
    | cons x r ihr =>
      intro ys hx
      cases ys with
      | nil => simp [sameL_cn]
      | cons y s =>
        simp only [sameL_cons, Bool.and_eq_true, List.cons.injEq]
        rw [hx x (by simp) y, ihr s (fun z hz => hx z (by simp [hz]))]
  obtain ⟨k', ys⟩ := c
  simp only [same_mk, Bool.and_eq_true, beq_iff_eq, Ty.mk.injEq]
  rw [hL xs ys ih]

/-- how many types it is of -/
def want (k : Int) : Nat := if k = 6 ∨ k = 7 then 1 else 0
/-- P7.1 -/
def check (d : Nat) (v : Ty) : Nat := match v with
  | .mk k xs => if 4 < d then 62 else if k < 1 ∨ 7 < k ∨ xs.length ≠ want k then 60 else V.first (xs.map (check (d + 1)))
theorem check_mk (d : Nat) (k : Int) (xs : List Ty) : check d (.mk k xs) = if 4 < d then 62 else if k < 1 ∨ 7 < k ∨ xs.length ≠ want k then 60 else V.first (xs.map (check (d + 1))) := by rw [check]
theorem check_leaf (d : Nat) (k : Int) (hd : ¬ 4 < d) (hk : ¬ (k < 1 ∨ 7 < k)) (hw : want k = 0) : check d (.mk k []) = 0 := by
  rw [check_mk, if_neg hd, if_neg (by simp [hw]; omega)]
  rfl
theorem check_one (d : Nat) (k : Int) (x : Ty) (hd : ¬ 4 < d) (hk : ¬ (k < 1 ∨ 7 < k)) (hw : want k = 1) : check d (.mk k [x]) = check (d + 1) x := by
  rw [check_mk, if_neg hd, if_neg (by simp [hw]; omega)]
  show (if check (d + 1) x = 0 then 0 else check (d + 1) x) = _
  split
  · next h => rw [h]
  · rfl
end Ty
end Go.Proofs.YtnlhpndjogjejaaGreatDoor

/- How a type lies in memory. -/
namespace Go.Proofs.YtnlhpndjogjejaaGreatDoor
open Go.RowKit

/-- a type's two cells -/
def cells2 (k : Int) (p : Option Addr) (n c : Nat) : Array Value := #[.int .i64 k, .slice p n c]

/-- one step of how a type lies: what it is of, of which P holds, in the block that its slice names -/
def TStep (w : World) (P : Array Value → Ty → Prop) (p : Option Addr) (c : Nat) (xs : List Ty) (us : Nat → Array Value) : Prop :=
  xs.length * 32 ≤ 140737488351232 ∧ xs.length ≤ c ∧ (xs ≠ [] → ∃ blk off, p = some ⟨blk, off, none⟩ ∧ blk < w.heap.size ∧ ∀ j, j < xs.length → ∀ m, m < 2 → w.cell? ⟨blk, off + j * 2 + m, none⟩ = (us j)[m]?) ∧ ∀ j (h : j < xs.length), P (us j) xs[j]
/-- so a type lies -/
def TLies (w : World) (u : Array Value) (x : Ty) : Prop :=
  ∀ P : Array Value → Ty → Prop, (∀ k p c xs us, TStep w P p c xs us → P (cells2 k p xs.length c) (.mk k xs)) → P u x
theorem TLies.mk {w : World} {k : Int} {p : Option Addr} {c : Nat} {xs : List Ty} (us : Nat → Array Value) (hl : xs.length * 32 ≤ 140737488351232) (hc : xs.length ≤ c)
    (hp : xs ≠ [] → ∃ blk off, p = some ⟨blk, off, none⟩ ∧ blk < w.heap.size ∧ ∀ j, j < xs.length → ∀ m, m < 2 → w.cell? ⟨blk, off + j * 2 + m, none⟩ = (us j)[m]?)
    (hr : ∀ j (h : j < xs.length), TLies w (us j) xs[j]) : TLies w (cells2 k p xs.length c) (.mk k xs) :=
  fun P hP => hP k p c xs us ⟨hl, hc, hp, fun j h => hr j h P hP⟩
theorem TLies.inv {w : World} {u : Array Value} {x : Ty} (h : TLies w u x) : ∃ k p c xs us, u = cells2 k p xs.length c ∧ x = .mk k xs ∧ TStep w (TLies w) p c xs us := by
  have := h (fun u x => TLies w u x ∧ ∃ k p c xs us, u = cells2 k p xs.length c ∧ x = .mk k xs ∧ TStep w (TLies w) p c xs us) (fun k p c xs us ⟨h1, h2, h3, h4⟩ =>
    ⟨.mk us h1 h2 h3 (fun j hj => (h4 j hj).1), k, p, c, xs, us, rfl, rfl, h1, h2, h3, fun j hj => (h4 j hj).1⟩)
  exact this.2
theorem TLies.on {w w' : World} {u : Array Value} {v : Ty} (h : TLies w u v) (hb : Below w.heap.size w w') : TLies w' u v := by
  refine h (TLies w') ?_
  rintro k p c xs us ⟨hl, hc, hp, ih⟩
  refine .mk us hl hc (fun hne => ?_) ih
  obtain ⟨blk, off, h1, h2, h3⟩ := hp hne
  refine ⟨blk, off, h1, by have := hb.size; omega, fun j hj m hm => ?_⟩
  rw [hb.cell (p := ⟨blk, off + j * 2 + m, none⟩) h2]
  exact h3 j hj m hm

/-- one of what it is of: where it lies -/
structure ItemT (w : World) (p : Option Addr) (j : Nat) (u : Array Value) : Prop where
  lies : ∃ blk off k q n c, p = some ⟨blk, off, none⟩ ∧ blk < w.heap.size ∧ u = cells2 k q n c ∧ w.cell? ⟨blk, off + j * 2, none⟩ = some (.int .i64 k) ∧ w.cell? ⟨blk, off + j * 2 + 1, none⟩ = some (.slice q n c)
theorem ItemT.on {w w' : World} {p : Option Addr} {j : Nat} {u : Array Value} (h : ItemT w p j u) (hb : Below w.heap.size w w') : ItemT w' p j u := by
  obtain ⟨blk, off, k, q, n, c, h1, h2, h3, g0, g1⟩ := h.lies
  refine ⟨⟨blk, off, k, q, n, c, h1, by have := hb.size; omega, h3, ?_, ?_⟩⟩
  · rw [hb.cell (p := ⟨blk, off + j * 2, none⟩) h2]; exact g0
  · rw [hb.cell (p := ⟨blk, off + j * 2 + 1, none⟩) h2]; exact g1
theorem TLies.open {w : World} {u : Array Value} {k : Int} {xs : List Ty} (h : TLies w u (.mk k xs)) :
    ∃ p c, u = cells2 k p xs.length c ∧ xs.length * 32 ≤ 140737488351232 ∧ xs.length ≤ c ∧ ∀ j (hj : j < xs.length), ∃ u', TLies w u' xs[j] ∧ ItemT w p j u' := by
  obtain ⟨k0, p, c, xs0, us, rfl, hx, hl, hc, hp, hr⟩ := h.inv
  simp only [Ty.mk.injEq] at hx
  obtain ⟨rfl, rfl⟩ := hx
  refine ⟨p, c, rfl, hl, hc, fun j hj => ⟨us j, hr j hj, ?_⟩⟩
  obtain ⟨blk, off, h1, h2, h3⟩ := hp (fun hc => by rw [hc] at hj; simp at hj)
  obtain ⟨k', q, c', ys, us', hu, -, -⟩ := (hr j hj).inv
  have g := fun m hm => h3 j hj m hm
  rw [hu] at g ⊢
  exact ⟨blk, off, k', q, ys.length, c', h1, h2, rfl, g 0 (by omega), g 1 (by omega)⟩
end Go.Proofs.YtnlhpndjogjejaaGreatDoor

/- The law's own exact(a, b). -/
namespace Go.Proofs.YtnlhpndjogjejaaGreatDoor
open Go.RowKit

namespace V
theorem exactL_len : ∀ (xs ys : List V), xs.length ≠ ys.length → exactL xs ys = false
  | [], [], h => absurd rfl h
  | [], _ :: _, _ => rfl
  | _ :: _, [], _ => rfl
  | x :: r, y :: s, h => by rw [exactL_cons, exactL_len r s (by simpa using h), Bool.and_false]
theorem exactL_at : ∀ (xs ys : List V) (j : Nat) (h1 : j < xs.length) (h2 : j < ys.length), exact xs[j] ys[j] = false → exactL xs ys = false
  | x :: r, y :: s, 0, _, _, h => by rw [exactL_cons]; simp at h; rw [h, Bool.false_and]
  | x :: r, y :: s, j + 1, h1, h2, h => by rw [exactL_cons, exactL_at r s j (by simpa using h1) (by simpa using h2) (by simpa using h), Bool.and_false]
theorem exactL_all : ∀ (xs ys : List V), xs.length = ys.length → (∀ j (h1 : j < xs.length) (h2 : j < ys.length), exact xs[j] ys[j] = true) → exactL xs ys = true
  | [], [], _, _ => rfl
  | [], _ :: _, h, _ => by simp at h
  | _ :: _, [], h, _ => by simp at h
  | x :: r, y :: s, h, ha => by
    rw [exactL_cons, exactL_all r s (by simpa using h) (fun j h1 h2 => by have := ha (j + 1) (by simpa using h1) (by simpa using h2); simpa using this)]
    have := ha 0 (by simp) (by simp)
    simp at this
    rw [this]; rfl
end V

theorem text_eq (t t' : ByteArray) : (t.toList == t'.toList) = decide (t = t') := by
  rw [ByteArray.toList_eq, ByteArray.toList_eq]
  by_cases h : t = t'
  · rw [h]; simp
  · rw [decide_eq_false h, beq_eq_false_iff_ne]
    intro hc
    apply h
    cases t; cases t'
    simp only [ByteArray.mk.injEq]
    exact Array.toList_inj.1 hc
theorem bne_t {a b : Int} (h : ¬ a = b) : (a != b) = true := by rw [bne_iff_ne]; exact h
theorem bne_f {a b : Int} (h : a = b) : (a != b) = false := by rw [h]; simp

attribute [local go_sem] run_frombits run_bits

set_option maxRecDepth 100000 in
set_option maxHeartbeats 400000 in
theorem exact6 : ∀ (x y : V) (w : World) (u v : Array Value), VLies w u x → VLies w v y → Calls Tryz.prog 22 #[.agg u, .agg v] w fun e w' => e = .returned (.bool (V.exact x y)) ∧ Below w.heap.size w w' := by
  intro x
  refine V.ind (P := fun x => ∀ (y : V) (w : World) (u v : Array Value), VLies w u x → VLies w v y → Calls Tryz.prog 22 #[.agg u, .agg v] w fun e w' => e = .returned (.bool (V.exact x y)) ∧ Below w.heap.size w w') ?_ x
  rintro k i b t xs ih ⟨k', i', b', t', ys⟩ w u v hx hy
  obtain ⟨p, c, rfl, hxl, hxc, hxi⟩ := hx.open
  obtain ⟨q, d, rfl, hyl, hyc, hyi⟩ := hy.open
  unfold cells5
  have hB2 : Below w.heap.size w ((w.alloc (.cells #[.int .i64 k, .int .i64 i, .float .f64 b, .string t, .slice p xs.length c] 65)).alloc (.cells #[.int .i64 k', .int .i64 i', .float .f64 b', .string t', .slice q ys.length d] 65)) := ((Below.refl _ _).alloc (Nat.le_refl _) _).alloc (by simp) _
  have HB2 := Lib.hid hB2
  clear hB2 hx hy
  by_cases h1 : ¬ k = k'
  · have g1 := bne_t h1
    have HE : Hid (V.exact (.mk k i b t xs) (.mk k' i' b' t' ys) = false) := by show _ = _; simp [V.exact_mk, h1]
    clear ih hxi hyi h1
    go_enter Tryz.func22, Tryz.ntmps22
    go_wp2_with fail
    go_quiet (fail)
    go_wp2
    go_ret
    exact ⟨by rw [HE.out]; rfl, below_drewN HB2.out _⟩
  replace h1 : k = k' := Classical.not_not.1 h1
  have g1 := bne_f h1
  by_cases h2 : ¬ i = i'
  · have g2 := bne_t h2
    have HE : Hid (V.exact (.mk k i b t xs) (.mk k' i' b' t' ys) = false) := by show _ = _; simp [V.exact_mk, h2]
    clear ih hxi hyi h2 h1
    go_enter Tryz.func22, Tryz.ntmps22
    go_wp2_with fail
    go_quiet (fail)
    go_wp2
    go_ret
    exact ⟨by rw [HE.out]; rfl, below_drewN HB2.out _⟩
  replace h2 : i = i' := Classical.not_not.1 h2
  have g2 := bne_f h2
  by_cases h3 : ¬ t = t'
  · have g3 : (t.toList == t'.toList) = false := by rw [text_eq, decide_eq_false h3]
    have HE : Hid (V.exact (.mk k i b t xs) (.mk k' i' b' t' ys) = false) := by show _ = _; simp [V.exact_mk, h3]
    clear ih hxi hyi h3 h1 h2
    go_enter Tryz.func22, Tryz.ntmps22
    go_wp2_with fail
    go_quiet (fail)
    go_wp2
    go_ret
    exact ⟨by rw [HE.out]; rfl, below_drewN HB2.out _⟩
  replace h3 : t = t' := Classical.not_not.1 h3
  have g3 : (t.toList == t'.toList) = true := by rw [text_eq, decide_eq_true h3]
  by_cases h4 : ¬ b = b'
  · have g4 : ((b : Int) != (b' : Int)) = true := bne_t (by omega)
    have HE : Hid (V.exact (.mk k i b t xs) (.mk k' i' b' t' ys) = false) := by show _ = _; simp [V.exact_mk, h4]
    clear ih hxi hyi h4 h1 h2 h3
    go_enter Tryz.func22, Tryz.ntmps22
    go_wp2_with fail
    go_quiet (fail)
    go_wp2
    go_ret
    exact ⟨by rw [HE.out]; rfl, below_drewN HB2.out _⟩
  replace h4 : b = b' := Classical.not_not.1 h4
  have g4 : ((b : Int) != (b' : Int)) = false := bne_f (by omega)
  by_cases h5 : ¬ xs.length = ys.length
  · have g5 : ((xs.length : Int) != (ys.length : Int)) = true := bne_t (by omega)
    have HE : Hid (V.exact (.mk k i b t xs) (.mk k' i' b' t' ys) = false) := by show _ = _; simp [V.exact_mk, V.exactL_len xs ys h5]
    clear ih hxi hyi h5 h1 h2 h3 h4
    go_enter Tryz.func22, Tryz.ntmps22
    go_wp2_with fail
    go_quiet (fail)
    go_wp2
    go_ret
    exact ⟨by rw [HE.out]; rfl, below_drewN HB2.out _⟩
  replace h5 : xs.length = ys.length := Classical.not_not.1 h5
  have g5 : ((xs.length : Int) != (ys.length : Int)) = false := bne_f (by omega)
  subst h1 h2 h3 h4
  have hEL : V.exact (.mk k i b t xs) (.mk k i b t ys) = V.exactL xs ys := by simp [V.exact_mk]
  rw [hEL]
  have HX : Hid (∀ j (hj : j < xs.length), ∃ u', VLies w u' xs[j] ∧ Item w p j u') := hxi
  have HY : Hid (∀ j (hj : j < ys.length), ∃ u', VLies w u' ys[j] ∧ Item w q j u') := hyi
  have HIH := Lib.hid ih
  have H5 := Lib.hid h5
  clear ih hxi hyi h5 hEL
  go_enter Tryz.func22, Tryz.ntmps22
  go_wp2_with fail
  go_quiet (fail)
  have HB3 := Lib.hid (below_drewN HB2.out nq)
  have hs3 : w.heap.size + 2 = (((w.alloc (.cells #[.int .i64 k, .int .i64 i, .float .f64 b, .string t, .slice p xs.length c] 65)).alloc (.cells #[.int .i64 k, .int .i64 i, .float .f64 b, .string t, .slice q ys.length d] 65)).drewN nq).heap.size := by simp [World.drewN]
  have k1 : (((w.alloc (.cells #[.int .i64 k, .int .i64 i, .float .f64 b, .string t, .slice p xs.length c] 65)).alloc (.cells #[.int .i64 k, .int .i64 i, .float .f64 b, .string t, .slice q ys.length d] 65)).drewN nq).cell? ⟨w.heap.size, 4, none⟩ = some (.slice p xs.length c) := by simp
  have k2 : (((w.alloc (.cells #[.int .i64 k, .int .i64 i, .float .f64 b, .string t, .slice p xs.length c] 65)).alloc (.cells #[.int .i64 k, .int .i64 i, .float .f64 b, .string t, .slice q ys.length d] 65)).drewN nq).cell? ⟨w.heap.size + 1, 4, none⟩ = some (.slice q ys.length d) := by simp
  generalize (((w.alloc (.cells #[.int .i64 k, .int .i64 i, .float .f64 b, .string t, .slice p xs.length c] 65)).alloc (.cells #[.int .i64 k, .int .i64 i, .float .f64 b, .string t, .slice q ys.length d] 65)).drewN nq) = w3 at HB3 hs3 k1 k2 ⊢
  clear HB2 g1 g2 g3 g4 g5
  go_wp2
  go_loopw [5] (fun v5 wr => ∃ j : Nat, j ≤ xs.length ∧ v5 = .int .i64 j ∧ Hid (Below w3.heap.size w3 wr ∧ ∀ m (h1 : m < xs.length) (h2 : m < ys.length), m < j → V.exact xs[m] ys[m] = true)) (fun v5 _ => xs.length - (intOf v5).toNat)
  case atStart => exact ⟨0, by omega, rfl, Below.refl _ _, fun m _ _ h => by omega⟩
  case round =>
    obtain ⟨j, hj, rfl, HL⟩ := hrel
    have n1 : wr.cell? ⟨w.heap.size, 4, none⟩ = some (.slice p xs.length c) := by rw [HL.out.1.cell (p := ⟨w.heap.size, 4, none⟩) (by simp only; omega)]; exact k1
    have n2 : wr.cell? ⟨w.heap.size + 1, 4, none⟩ = some (.slice q ys.length d) := by rw [HL.out.1.cell (p := ⟨w.heap.size + 1, 4, none⟩) (by simp only; omega)]; exact k2
    have hbw : Below w.heap.size w wr := HB3.out.trans (HL.out.1.mono (by have := HB3.out.size; omega))
    by_cases hlt : j < xs.length
    · have hlt2 : j < ys.length := by have := H5.out; omega
      obtain ⟨ux, hvx, hix⟩ := HX.out j hlt
      obtain ⟨uy, hvy, hiy⟩ := HY.out j hlt2
      obtain ⟨bx, ox, kx, ix, fx, tx, qx, nx, cx, rfl, _, rfl, a0, a1, a2, a3, a4⟩ := (hix.on hbw).lies
      obtain ⟨by', oy, ky, iy, fy, ty, qy, ny, cy, rfl, _, rfl, b0, b1, b2, b3, b4⟩ := (hiy.on hbw).lies
      have HC : Hid (∀ w', Below w.heap.size w w' → Calls Tryz.prog 22 #[.agg #[.int .i64 kx, .int .i64 ix, .float .f64 fx, .string tx, .slice qx nx cx], .agg #[.int .i64 ky, .int .i64 iy, .float .f64 fy, .string ty, .slice qy ny cy]] w' fun e w'' => e = .returned (.bool (V.exact xs[j] ys[j])) ∧ Below w'.heap.size w' w'') :=
        fun w' hb => HIH.out _ (List.getElem_mem hlt) ys[j] w' _ _ (hvx.on hb) (hvy.on hb)
      have HBw := Lib.hid hbw
      have HAll := Lib.hid HL.out.2
      have HBr := Lib.hid HL.out.1
      have hj1 : (j : Int) < (xs.length : Int) := by omega
      have hj2 : (j : Int) < (ys.length : Int) := by omega
      obtain ⟨r, hr⟩ : ∃ r, r = V.exact xs[j] ys[j] := ⟨_, rfl⟩
      rw [← hr] at HC
      have HRr := Lib.hid hr
      clear hvx hvy hix hiy hbw HL hr
      go_wp2_with fail
      go_region_held3 (fun w' => w'.cell? ⟨w.heap.size, 4, none⟩ = some (.slice (some ⟨bx, ox, none⟩) xs.length c) ∧ w'.cell? ⟨w.heap.size + 1, 4, none⟩ = some (.slice (some ⟨by', oy, none⟩) ys.length d) ∧ w'.cell? ⟨bx, ox + j * 5, none⟩ = some (.int .i64 kx) ∧ w'.cell? ⟨bx, ox + j * 5 + 1, none⟩ = some (.int .i64 ix) ∧ w'.cell? ⟨bx, ox + j * 5 + 2, none⟩ = some (.float .f64 fx) ∧ w'.cell? ⟨bx, ox + j * 5 + 3, none⟩ = some (.string tx) ∧ w'.cell? ⟨bx, ox + j * 5 + 4, none⟩ = some (.slice qx nx cx) ∧ w'.cell? ⟨by', oy + j * 5, none⟩ = some (.int .i64 ky) ∧ w'.cell? ⟨by', oy + j * 5 + 1, none⟩ = some (.int .i64 iy) ∧ w'.cell? ⟨by', oy + j * 5 + 2, none⟩ = some (.float .f64 fy) ∧ w'.cell? ⟨by', oy + j * 5 + 3, none⟩ = some (.string ty) ∧ w'.cell? ⟨by', oy + j * 5 + 4, none⟩ = some (.slice qy ny cy)) (go_keep) (first
        | (go_at_call 22; refine (HC.out _ (below_drewN HBw.out _)).mono ?_; rintro e w4 ⟨rfl, hb4⟩; have hb5 := below_via (w := wr) hb4 (by rfl) (by rfl) (by rfl) (by rfl); have z1 := cell_on hb5 n1; have z2 := cell_on hb5 n2; have z3 := cell_on hb5 a0; have z4 := cell_on hb5 a1; have z5 := cell_on hb5 a2; have z6 := cell_on hb5 a3; have z7 := cell_on hb5 a4; have z8 := cell_on hb5 b0; have z9 := cell_on hb5 b1; have z10 := cell_on hb5 b2; have z11 := cell_on hb5 b3; have z12 := cell_on hb5 b4; have HB4 := Lib.hid hb5; clear hb4 hb5))
      clear z1 z2 z3 z4 z5 z6 z7 z8 z9 z10 z11 z12 a0 a1 a2 a3 a4 b0 b1 b2 b3 b4 n1 n2
      cases r with
      | true =>
        have HN : Hid (Below w3.heap.size w3 w4 ∧ ∀ m (h1 : m < xs.length) (h2 : m < ys.length), m < j + 1 → V.exact xs[m] ys[m] = true) := by
          refine ⟨HBr.out.trans (HB4.out.mono HBr.out.size), fun m h1 h2 hm => ?_⟩
          by_cases hmj : m = j
          · subst hmj; exact HRr.out.symm
          · exact HAll.out m h1 h2 (by omega)
        clear HBr HB4 HAll HC
        go_wp2
        go_roundw
        case rel => exact ⟨j + 1, by omega, by go_num, HN⟩
        case measure => simp [intOf]; omega
      | false =>
        have HE : Hid (V.exactL xs ys = false) := V.exactL_at xs ys j hlt hlt2 HRr.out.symm
        have HF := Lib.hid (HBw.out.trans (HB4.out.mono HBw.out.size))
        clear HBr HB4 HAll HC
        go_wp2
        go_ret
        exact ⟨by rw [HE.out]; rfl, HF.out⟩
    · have HE : Hid (V.exactL xs ys = true) := V.exactL_all xs ys H5.out (fun m h1 h2 => HL.out.2 m h1 h2 (by omega))
      have HF := Lib.hid hbw
      have hjn : ¬ (j : Int) < (xs.length : Int) := by omega
      clear HL hbw hlt
      go_wp2
      go_ret
      exact ⟨by rw [HE.out]; rfl, HF.out⟩
end Go.Proofs.YtnlhpndjogjejaaGreatDoor

/- A value that lies in blocks of its own: each item's block is no other item's; and how such a value is built, item by item. -/
namespace Go.Proofs.YtnlhpndjogjejaaGreatDoor
open Go.RowKit

/-- one step of how a value lies in the blocks of F, each of them named once, and each cell may be written: of its items P holds -/
structure VOwnS (w : World) (P : (Nat → Prop) → Array Value → V → Prop) (F : Nat → Prop) (g off c : Nat) (xs : List V) (us : Nat → Array Value) (Fs : Nat → Nat → Prop) : Prop where
  hl : xs.length * 64 ≤ 140737488351232
  hc : xs.length ≤ c
  h5 : ∀ j, j < xs.length → (us j).size = 5
  hp : g < w.heap.size ∧ ∀ j, j < xs.length → ∀ m, m < 5 → w.cell? ⟨g, off + j * 5 + m, none⟩ = (us j)[m]?
  hf : ∀ j, j < xs.length → ∀ m, m < 5 → w.frozen? ⟨g, off + j * 5 + m, none⟩ = false
  hg : F g
  hgs : ∀ j, j < xs.length → ¬ Fs j g
  hd : ∀ j n, j < xs.length → n < xs.length → j ≠ n → ∀ k, Fs j k → ¬ Fs n k
  hs : ∀ j, j < xs.length → ∀ k, Fs j k → F k
  hr : ∀ j (h : j < xs.length), P (Fs j) (us j) xs[j]
/-- so a value lies in blocks of its own -/
def VOwn (w : World) (F : Nat → Prop) (u : Array Value) (x : V) : Prop :=
  ∀ P : (Nat → Prop) → Array Value → V → Prop, (∀ F k i b t p c, P F (cells5 k i b t p 0 c) (.mk k i b t [])) →
    (∀ F k i b t g off c xs us Fs, VOwnS w P F g off c xs us Fs → P F (cells5 k i b t (.some ⟨g, off, .none⟩) xs.length c) (.mk k i b t xs)) → P F u x

section
variable {w w' : World} {F G : Nat → Prop} {u : Array Value} {x : V}
theorem VOwn.none {F : Nat → Prop} {k i : Int} {b : Nat} {t : ByteArray} {p : Option Addr} {c : Nat} : VOwn w F (cells5 k i b t p 0 c) (.mk k i b t []) := fun _ h0 _ => h0 F k i b t p c
theorem VOwn.some {F : Nat → Prop} {k i : Int} {b : Nat} {t : ByteArray} {g off c : Nat} {xs : List V} (us : Nat → Array Value) (Fs : Nat → Nat → Prop) (hl : xs.length * 64 ≤ 140737488351232) (hc : xs.length ≤ c) (h5 : ∀ j, j < xs.length → (us j).size = 5)
      (hp : g < w.heap.size ∧ ∀ j, j < xs.length → ∀ m, m < 5 → w.cell? ⟨g, off + j * 5 + m, .none⟩ = (us j)[m]?)
      (hf : ∀ j, j < xs.length → ∀ m, m < 5 → w.frozen? ⟨g, off + j * 5 + m, .none⟩ = false)
      (hg : F g) (hgs : ∀ j, j < xs.length → ¬ Fs j g) (hd : ∀ j n, j < xs.length → n < xs.length → j ≠ n → ∀ k, Fs j k → ¬ Fs n k) (hs : ∀ j, j < xs.length → ∀ k, Fs j k → F k)
      (hr : ∀ j (h : j < xs.length), VOwn w (Fs j) (us j) xs[j]) : VOwn w F (cells5 k i b t (.some ⟨g, off, .none⟩) xs.length c) (.mk k i b t xs) :=
  fun P h0 h1 => h1 F k i b t g off c xs us Fs ⟨hl, hc, h5, hp, hf, hg, hgs, hd, hs, fun j h => hr j h P h0 h1⟩
/-- which of the two it is -/
theorem VOwn.inv (h : VOwn w F u x) : (∃ k i b t p c, u = cells5 k i b t p 0 c ∧ x = .mk k i b t []) ∨ ∃ k i b t g off c xs us Fs, u = cells5 k i b t (.some ⟨g, off, .none⟩) xs.length c ∧ x = .mk k i b t xs ∧ VOwnS w (VOwn w) F g off c xs us Fs := by
  have := h (fun F u x => VOwn w F u x ∧ ((∃ k i b t p c, u = cells5 k i b t p 0 c ∧ x = .mk k i b t []) ∨ ∃ k i b t g off c xs us Fs, u = cells5 k i b t (.some ⟨g, off, .none⟩) xs.length c ∧ x = .mk k i b t xs ∧ VOwnS w (VOwn w) F g off c xs us Fs))
    (fun F k i b t p c => ⟨.none, .inl ⟨k, i, b, t, p, c, rfl, rfl⟩⟩)
    (fun F k i b t g off c xs us Fs s => ⟨.some us Fs s.hl s.hc s.h5 s.hp s.hf s.hg s.hgs s.hd s.hs (fun j h => (s.hr j h).1), .inr ⟨k, i, b, t, g, off, c, xs, us, Fs, rfl, rfl, s.hl, s.hc, s.h5, s.hp, s.hf, s.hg, s.hgs, s.hd, s.hs, fun j h => (s.hr j h).1⟩⟩)
  exact this.2
theorem VOwn.five (h : VOwn w F u x) : u.size = 5 := by
  rcases h.inv with ⟨_, _, _, _, _, _, rfl, _⟩ | ⟨_, _, _, _, _, _, _, _, _, _, rfl, _⟩ <;> rfl
theorem VOwn.shape (h : VOwn w F u x) : ∃ k i b t p n c, u = cells5 k i b t p n c := by
  rcases h.inv with ⟨_, _, _, _, _, _, rfl, _⟩ | ⟨_, _, _, _, _, _, _, _, _, _, rfl, _⟩ <;> exact ⟨_, _, _, _, _, _, _, rfl⟩
theorem VOwn.lies (h : VOwn w F u x) : VLies w u x :=
  h (fun _ u x => VLies w u x) (fun F k i b t p c => VLies.mk (xs := []) (fun _ => #[]) (by simp) (by simp) (fun hc => absurd rfl hc) (fun j hj => by simp at hj))
    (fun F k i b t g off c xs us Fs s => VLies.mk us s.hl s.hc (fun _ => ⟨_, _, rfl, s.hp.1, s.hp.2⟩) s.hr)
theorem VOwn.aside (h : VOwn w F u x) : ∀ {G : Nat → Prop} {w' : World}, Aside G w w' → (∀ k, F k → ¬ G k) → VOwn w' F u x := by
  intro G w' ha
  refine h (fun F u x => (∀ k, F k → ¬ G k) → VOwn w' F u x) ?_ ?_
  · intro F k i b t p c _; exact .none
  · intro F k i b t g off c xs us Fs s hd2
    refine .some us Fs s.hl s.hc s.h5 ⟨Nat.lt_of_lt_of_le s.hp.1 ha.size, fun j hj m hm => ?_⟩ (fun j hj m hm => ?_) s.hg s.hgs s.hd s.hs (fun j hj => s.hr j hj fun k hk => hd2 k (s.hs j hj k hk))
    · rw [ha.cell s.hp.1 (hd2 _ s.hg)]; exact s.hp.2 j hj m hm
    · rw [ha.frozen s.hp.1 (hd2 _ s.hg)]; exact s.hf j hj m hm
theorem VOwn.under {B : Nat} (h : VOwn w F u x) (hb : Below B w w') (hF : ∀ k, F k → k < B) : VOwn w' F u x :=
  h.aside (G := fun k => B ≤ k) (aside_of hb fun _ _ h => h) fun k hk hc => by have := hF k hk; omega
theorem VOwn.mono (h : VOwn w F u x) (hF : ∀ k, F k → G k) : VOwn w G u x := by
  rcases h.inv with ⟨k, i, b, t, p, c, rfl, rfl⟩ | ⟨k, i, b, t, g, off, c, xs, us, Fs, rfl, rfl, s⟩
  · exact .none
  · exact .some us Fs s.hl s.hc s.h5 s.hp s.hf (hF _ s.hg) s.hgs s.hd (fun j hj k hk => hF k (s.hs j hj k hk)) s.hr
end

/-- cells, value by value -/
def flat (us : Nat → Array Value) : Nat → List Value
  | 0 => []
  | n + 1 => flat us n ++ (us n).toList
theorem flat_len (us : Nat → Array Value) : ∀ n, (∀ j, j < n → (us j).size = 5) → (flat us n).length = n * 5
  | 0, _ => by simp [flat]
  | n + 1, h => by
    rw [flat, List.length_append, flat_len us n fun j hj => h j (by omega), Array.length_toList, h n (by omega)]; omega
theorem flat_get (us : Nat → Array Value) : ∀ n, (∀ j, j < n → (us j).size = 5) → ∀ j, j < n → ∀ m, m < 5 → (flat us n)[j * 5 + m]? = (us j)[m]?
  | 0, _, j, hj, _, _ => by omega
  | n + 1, h, j, hj, m, hm => by
    have hl := flat_len us n fun j hj => h j (by omega)
    rw [flat]
    rcases Nat.lt_or_ge j n with h1 | h1
    · rw [List.getElem?_append_left (by omega), flat_get us n (fun j hj => h j (by omega)) j h1 m hm]
    · have hjn : j = n := by omega
      subst hjn
      rw [List.getElem?_append_right (by omega), hl, Nat.add_sub_cancel_left]
      simp
theorem flat_congr (us us' : Nat → Array Value) : ∀ n, (∀ j, j < n → us j = us' j) → flat us n = flat us' n
  | 0, _ => rfl
  | n + 1, h => by rw [flat, flat, flat_congr us us' n fun j hj => h j (by omega), h n (by omega)]

/-- values that are built: they lie in a row of the call's own, and each in blocks of its own -/
structure Built (w : World) (B : Nat) (v : Value) (n : Nat) (us : Nat → Array Value) (Fs : Nat → Nat → Prop) (ys : List V) : Prop where
  len : ys.length = n
  five : ∀ j, j < n → (us j).size = 5
  row : w.ownsRow B 65 5 v n (flat us n)
  own : ∀ j (h : j < ys.length), VOwn w (Fs j) (us j) ys[j]
  apart : ∀ j m, j < n → m < n → j ≠ m → ∀ k, Fs j k → ¬ Fs m k
  beside : ∀ g, v.ownBlock = some g → ∀ j, j < n → ¬ Fs j g
  range : ∀ j, j < n → ∀ k, Fs j k → B ≤ k ∧ k < w.heap.size

theorem built_nil (w : World) (B : Nat) : Built w B (.slice none 0 0) 0 (fun _ => #[]) (fun _ _ => False) [] :=
  ⟨rfl, fun j hj => by omega, World.ownsRow_nil _ _ _ _, fun j hj => by simp at hj, fun j m hj => by omega, fun g hg => by simp [Value.ownBlock] at hg, fun j hj => by omega⟩

section
variable {w w' : World} {B : Nat} {v : Value} {n : Nat} {us : Nat → Array Value} {Fs : Nat → Nat → Prop} {ys : List V}
theorem Built.aside {G : Nat → Prop} (h : Built w B v n us Fs ys) (ha : Aside G w w') (h1 : ∀ g, v.ownBlock = some g → ¬ G g) (h2 : ∀ j, j < n → ∀ k, Fs j k → ¬ G k) : Built w' B v n us Fs ys := by
  refine ⟨h.len, h.five, ?_, fun j hj => (h.own j hj).aside ha (h2 j (by rw [← h.len]; exact hj)), h.apart, h.beside, fun j hj k hk => ⟨(h.range j hj k hk).1, Nat.lt_of_lt_of_le (h.range j hj k hk).2 ha.size⟩⟩
  refine ⟨h.row.1, ?_⟩
  rcases h.row.2 with h3 | ⟨g, cap, cur, rfl, h4, h5, h6⟩
  · exact .inl h3
  · exact .inr ⟨g, cap, cur, rfl, h4, by rw [ha.block g (Array.getElem?_eq_some_iff.1 h5).1 (h1 g rfl)]; exact h5, h6⟩
theorem Built.lt (h : Built w B v n us Fs ys) : ∀ g, v.ownBlock = some g → B ≤ g ∧ g < w.heap.size := World.ownsRow.lt h.row
theorem Built.on (h : Built w B v n us Fs ys) (hb : Below w.heap.size w w') : Built w' B v n us Fs ys :=
  h.aside (aside_new hb (fun _ => False)) (fun _ _ hc => hc) (fun _ _ _ _ hc => hc)
theorem Built.set (h : Built w B v n us Fs ys) (p : Addr) (u : Value) (hp : p.block < B) : Built (w.setCell p u) B v n us Fs ys :=
  h.aside (G := fun k => k = p.block) ((Aside.refl (fun k => k = p.block) w).setCell (p := p) (.inl rfl) u) (fun g hg hc => by have := (h.lt g hg).1; omega) (fun j hj k hk hc => by have := (h.range j hj k hk).1; omega)

/-- one more -/
theorem Built.step {w2 w3 w4 : World} {u : Array Value} {F : Nat → Prop} {x : V} {g cap : Nat} (h : Built w B v n us Fs ys) (hb : Below w.heap.size w w2) (hx : VOwn w2 F u x) (hF : ∀ k, F k → w.heap.size ≤ k ∧ k < w2.heap.size) (hb3 : Below w2.heap.size w2 w3) (hB : B ≤ w.heap.size)
    (hr : w4.ownsRow B 65 5 (.slice (some ⟨g, 0, none⟩) (n + 1) cap) (n + 1) (flat us n ++ u.toList)) (hg : w3.grownBy w4 v.ownBlock) (hn : v.ownBlock = some g ∨ g = w3.heap.size) :
    Built w4 B (.slice (some ⟨g, 0, none⟩) (n + 1) cap) (n + 1) (fun j => if j = n then u else us j) (fun j => if j = n then F else Fs j) (ys ++ [x]) := by
  have hs := hb.size
  have hs3 := hb3.size
  have ha : Aside (fun k => v.ownBlock = some k) w2 w4 := by
    refine (aside_new hb3 _).trans (G := fun k => v.ownBlock = some k) ⟨hg.os, hg.tape, hg.output, hg.size, fun k hk hf => hg.block k hk (fun hc => hf hc.symm)⟩ (fun _ _ h => h)
  have hgF : ∀ k, F k → ¬ v.ownBlock = some k := fun k hk hc => by have := (h.lt k hc).2; have := (hF k hk).1; omega
  have hn1 : ∀ j, j < n + 1 → j ≠ n → j < n := fun j h1 h2 => by omega
  refine ⟨by rw [List.length_append, h.len]; rfl, fun j hj => ?_, ?_, fun j hj => ?_, fun j m hj hm hjm k hk => ?_, fun g' hg' j hj => ?_, fun j hj k hk => ?_⟩
  · split
    · exact hx.five
    · exact h.five j (by omega)
  · rw [flat, flat_congr _ us n (fun j hj => by simp [show ¬ j = n by omega])]
    simpa using hr
  · rw [List.length_append, h.len, List.length_singleton] at hj
    by_cases hjn : j = n
    · subst hjn
      rw [if_pos rfl, if_pos rfl, List.getElem_append_right (by rw [h.len]; exact Nat.le_refl _)]
      simp only [h.len, Nat.sub_self, List.getElem_singleton]
      exact hx.aside ha hgF
    · rw [if_neg hjn, if_neg hjn, List.getElem_append_left (by rw [h.len]; omega)]
      exact ((h.own j (by rw [h.len]; omega)).under hb (fun k hk => (h.range j (by omega) k hk).2)).aside ha (fun k hk hc => h.beside k hc j (by omega) hk)
  · by_cases hjn : j = n
    · rw [if_pos hjn] at hk
      rw [if_neg (by omega)]
      exact fun hc => by have := (h.range m (by omega) k hc).2; have := (hF k hk).1; omega
    · rw [if_neg hjn] at hk
      by_cases hmn : m = n
      · rw [if_pos hmn]
        exact fun hc => by have := (h.range j (by omega) k hk).2; have := (hF k hc).1; omega
      · rw [if_neg hmn]
        exact h.apart j m (by omega) (by omega) hjm k hk
  · simp only [Value.ownBlock, Option.some.injEq] at hg'
    subst hg'
    by_cases hjn : j = n
    · rw [if_pos hjn]
      intro hc
      have := hF _ hc
      rcases hn with hn | hn
      · exact hgF _ hc hn
      · omega
    · rw [if_neg hjn]
      intro hc
      rcases hn with hn | hn
      · exact h.beside _ hn j (by omega) hc
      · have := (h.range j (by omega) _ hc).2; omega
  · have h4 := ha.size
    by_cases hjn : j = n
    · rw [if_pos hjn] at hk
      have := hF k hk; omega
    · rw [if_neg hjn] at hk
      have := h.range j (by omega) k hk; omega

/-- what is built is a value that lies in blocks of its own -/
theorem Built.done (h : Built w B v n us Fs ys) (hl : n * 64 ≤ 140737488351232) (k i : Int) (b : Nat) (t : ByteArray) : ∃ p c, v = .slice p n c ∧ VOwn w (fun k => B ≤ k ∧ k < w.heap.size) (cells5 k i b t p n c) (.mk k i b t ys) := by
  rcases h.row.2 with ⟨rfl, h0⟩ | ⟨g, cap, cur, rfl, h1, h2, h3, h4, h5, h6⟩
  · have hy : ys = [] := List.eq_nil_of_length_eq_zero (by rw [h.len]; exact h0)
    subst hy
    subst h0
    exact ⟨none, 0, rfl, .none⟩
  · refine ⟨_, cap, rfl, ?_⟩
    have hg := (Array.getElem?_eq_some_iff.1 h2).1
    have hlen := h.len
    have hcell : ∀ q, q < n * 5 → w.cell? ⟨g, q, none⟩ = (flat us n)[q]? := fun q hq => by
      rw [← h6, List.getElem?_take_of_lt hq]
      simp [World.cell?, h2]
    subst hlen
    refine .some us Fs hl h3 h.five ⟨hg, fun j hj m hm => ?_⟩ (fun j hj m hm => by simp [World.frozen?, h2]) ⟨h1, hg⟩ (fun j hj => h.beside g rfl j hj) h.apart (fun j hj k hk => h.range j hj k hk) h.own
    rw [Nat.zero_add, hcell _ (by omega), flat_get us _ h.five j hj m hm]
end
end Go.Proofs.YtnlhpndjogjejaaGreatDoor
