/- The landed text: appendType. -/
import Derived.Test.YtpjcmahlnnglcaaGreatDoorK21D
import Derived.Test.YtpjcmahlnnglcaaGreatDoorTxL
import Derived.Test.YtpjcmahlnnglcaaGreatDoorB12
import Derived.Lib.OthersKept
namespace Go.Proofs.YtpjcmahlnnglcaaGreatDoor
open Go.RowKit

/-- bytes of the call's own, grown; all that lies below, or is of another kind, stays -/
structure Grx (w : World) (B : Nat) (w' : World) (v' : Value) (l : List UInt8) : Prop where
  has : Has w' B v' l
  os : w'.os = w.os
  tape : w'.tape = w.tape
  output : w'.output = w.output
  size : w.heap.size ≤ w'.heap.size
  keep : ∀ k o, w.heap[k]? = some o → (k < B ∨ ∀ c fz, o ≠ .cells c 5 fz) → w'.heap[k]? = some o
section
variable {w w1 w2 : World} {B : Nat} {v v1 v2 : Value} {l l1 l2 : List UInt8}
theorem Grx.new (h : Has w B v l) (hb : Below w.heap.size w w1) : Grx w B w1 v l := ⟨h.on hb, hb.os, hb.tape, hb.output, hb.size, fun k _ ho _ => (hb.block k (blk_lt ho)).trans ho⟩
theorem Grx.refl (h : Has w B v l) : Grx w B w v l := Grx.new h (Below.refl _ _)
theorem Grx.trans (h : Grx w B w1 v1 l1) (k : Grx w1 B w2 v2 l2) : Grx w B w2 v2 l2 := ⟨k.has, k.os.trans h.os, k.tape.trans h.tape, k.output.trans h.output, Nat.le_trans h.size k.size, fun i o ho hc => k.keep i o (h.keep i o ho hc) hc⟩
theorem Grx.of (h : Grew w B v w1 v1 l1) (hv : Has w B v l) : Grx w B w1 v1 l1 := by
  refine ⟨h.has, h.aside.os, h.aside.tape, h.aside.output, h.aside.size, fun k o ho hc => (h.aside.block k (blk_lt ho) (fun he => ?_)).trans ho⟩
  have h1 := (hv.lt k he).1
  rcases hc with hc | hc
  · omega
  · rcases hv.2 with ⟨rfl, _⟩ | ⟨g, cap, cur, rfl, _, hb, _⟩
    · cases he
    · injection he with he
      subst he
      rw [hb] at ho
      injection ho with ho
      exact hc _ _ ho.symm
theorem Grx.below (h : Grx w B w1 v1 l1) (hB : B ≤ w.heap.size) : Below B w w1 := ⟨h.os, h.tape, h.output, h.size, fun k hk => by
  have hl : k < w.heap.size := by omega
  have h1 := Array.getElem?_eq_getElem hl
  rw [h1]
  exact h.keep k _ h1 (.inl hk)⟩
theorem Grx.on (h : Grx w B w1 v1 l1) (hb : Below w1.heap.size w1 w2) : Grx w B w2 v1 l1 := h.trans (Grx.new h.has hb)
/-- a block of another kind -/
theorem Grx.blk {C : Array Value} {T : TypeId} {fr : Nat × Nat} (h : Grx w B w1 v1 l1) {k : Nat} (hk : w.heap[k]? = some (.cells C T fr)) (hT : T ≠ 5) : w1.heap[k]? = some (.cells C T fr) := h.keep k _ hk (.inr fun c fz hc => by
  injection hc with h1 h2
  exact hT h2)
end
/-- what an append answers -/
def GrxV (w : World) (B : Nat) (l : List UInt8) (e : Ending) (w' : World) : Prop := ∃ q cap, e = .returned (.slice q l.length cap) ∧ Grx w B w' (.slice q l.length cap) l
theorem GrxV.open {w w' : World} {B : Nat} {l : List UInt8} {e : Ending} (h : GrxV w B l e w') : ∃ q cap, e = .returned (.slice q l.length cap) ∧ Grx w B w' (.slice q l.length cap) l := h

/-- the text of what a type is of -/
def tyOf (ts : List Ty) : Tx.Bs := (ts.map fun y => 40 :: (Tx.ty y ++ [41])).flatten
theorem ty_flat {k : Int} {ts : List Ty} (h : ts.length ≤ 1) : Tx.ty (.mk k ts) = Tx.word k ++ tyOf ts := by
  match ts, h with
  | [], _ => rw [Tx.ty_leaf]; simp [tyOf]
  | [y], _ => rw [Tx.ty_one]; simp [tyOf]
theorem tyOf_next (ts : List Ty) (j : Nat) (h : j < ts.length) : tyOf (ts.take (j + 1)) = tyOf (ts.take j) ++ 40 :: (Tx.ty ts[j] ++ [41]) := by
  unfold tyOf
  rw [List.take_succ_eq_append_getElem h, List.map_append, List.flatten_append]
  simp

set_option maxRecDepth 100000 in
set_option maxHeartbeats 4000000 in
theorem appendTypeX : ∀ (x : Ty) (d : Nat) (w0 w : World) (u : Array Value) (v : Value) (xs : List UInt8), Ty.check d x = 0 → Hv w0 → TLies w0 u x → Below w0.heap.size w0 w → Has w w0.heap.size v xs → xs.length ≤ 140000000000000 + 7 * d → Calls Tryz.prog 30 #[v, .agg u] w (GrxV w w0.heap.size (xs ++ Tx.ty x)) := by
  intro x
  refine Ty.ind (P := fun x => ∀ (d : Nat) (w0 w : World) (u : Array Value) (v : Value) (xs : List UInt8), Ty.check d x = 0 → Hv w0 → TLies w0 u x → Below w0.heap.size w0 w → Has w w0.heap.size v xs → xs.length ≤ 140000000000000 + 7 * d → Calls Tryz.prog 30 #[v, .agg u] w (GrxV w w0.heap.size (xs ++ Tx.ty x))) ?_ x
  rintro k ts ih d w0 w u v xs hd hv0 hx hb0 hv hlen
  obtain ⟨p, c, rfl, hxl, hxc, hxi⟩ := hx.open
  unfold cells2
  have hBs := hb0.size
  obtain ⟨hd4, hk, htt⟩ := Sch.ty_open hd
  obtain ⟨m, rfl⟩ : ∃ m : Nat, k = (m : Nat) := ⟨k.toNat, by omega⟩
  have m0 : (0 : Int) ≤ (m : Int) := by omega
  have m1 : (m : Int) < 8 := by omega
  have m2 : m < 8 := by omega
  have hty : Hid (Tx.ty (.mk (m : Int) ts) = Tx.word (m : Int) ++ tyOf ts ∧ ts.length ≤ 1 ∧ ∀ y ∈ ts, Ty.check (d + 1) y = 0) := by
    show _ ∧ _ ∧ _
    rcases htt with ⟨h67, rfl⟩ | ⟨h67, y, rfl, hy⟩
    · exact ⟨ty_flat (by simp), by simp, fun y hy => by cases hy⟩
    · refine ⟨ty_flat (by simp), by simp, fun z hz => ?_⟩
      rw [List.mem_singleton] at hz
      rw [hz]; exact hy
  have hwl := word_len (m : Int)
  obtain ⟨wd, hwd⟩ : ∃ wd, wd = Tx.word (m : Int) := ⟨_, rfl⟩
  rw [← hwd] at hty hwl
  obtain ⟨n, hn⟩ : ∃ n, n = ts.length := ⟨_, rfl⟩
  rw [← hn]
  obtain ⟨W0, hW0⟩ : ∃ W0, W0 = w.alloc (.cells #[.int .i64 (m : Nat), .slice p n c] 24) := ⟨_, rfl⟩
  have hbW : Below w.heap.size w W0 := by rw [hW0]; exact (Below.refl _ _).alloc (Nat.le_refl _) _
  have HBk : Hid (W0.heap[w.heap.size]? = some (.cells #[.int .i64 (m : Nat), .slice p n c] 24 (0, 0))) := by rw [hW0]; exact blk_new w _
  have hvW : Hv W0 := (hv0.on hb0 hv0.size).on hbW (Nat.le_trans hv0.size hb0.size)
  have kc : W0.cell? ⟨0, m, none⟩ = some (.string ⟨wd.toArray⟩) := by
    rw [hvW.kwc m, kw_at m2, hwd]
    rfl
  have kc2 : w.cell? ⟨0, m, none⟩ = some (.string ⟨wd.toArray⟩) := by
    rw [(hv0.on hb0 hv0.size).kwc m, kw_at m2, hwd]
    rfl
  have hglt : 0 < w.heap.size := by have := (hv0.on hb0 hv0.size).size; omega
  have HVW := Lib.hid (hv.on hbW)
  have HV := Lib.hid hv
  have HG0 := Lib.hid (Grx.new hv hbW)
  have HB0 := Lib.hid hb0
  have HW0 := Lib.hid hW0
  have HX : Hid (∀ j (hj : j < ts.length), ∃ u', TLies w0 u' ts[j] ∧ ItemT w0 p j u') := hxi
  have HIH := Lib.hid ih
  have HN := Lib.hid hn
  have HH0 := Lib.hid hv0
  have hBW : w0.heap.size ≤ W0.heap.size := Nat.le_trans hBs hbW.size
  have hts : (ByteArray.mk wd.toArray).size = wd.length := by show wd.toArray.size = _; simp
  have hl0 : xs.length + (ByteArray.mk wd.toArray).size ≤ 140737488355328 := by omega
  have hn1 : n ≤ 1 := by rw [hn]; exact hty.out.2.1
  have hnI : (n : Int) ≤ 1 := by omega
  clear ih hxi hd hx hb0 hv hv0 hbW hvW hW0 hwd htt hn hts
  go_enter Tryz.func30, Tryz.ntmps30
  go_wp2_with (first
    | (at_builtin; rw [← HW0.out]; refine wp_ontoS (B := w0.heap.size) (t := ⟨wd.toArray⟩) HVW.out hl0 hBW rfl rfl rfl rfl rfl ?_; intro ys q4 cap4 W HY hH4 ha4 hb4
       have HG1 : Hid (Grx w w0.heap.size W (.slice q4 ys.length cap4) ys) := HG0.out.trans (Grx.of ⟨hH4, ha4, hb4⟩ HVW.out)
       have c1 : W.cell? ⟨w.heap.size, 1, none⟩ = some (.slice p n c) := blk_cell ((Grx.of ⟨hH4, ha4, hb4⟩ HVW.out).blk HBk.out (by decide)) 1
       clear hH4 ha4 hb4)
    | fail)
  have HY0 : Hid (ys = xs ++ (wd ++ tyOf (ts.take 0))) := by show _ = _; rw [HY.out]; simp [tyOf]
  clear HY c1 HVW HG0 kc kc2 HW0 HBk hBW hl0
  go_loopw [0, 16] (fun v0 v16 wr => ∃ (j : Nat) (zs : List UInt8) (q : Option Addr) (cap : Nat), j ≤ n ∧ v16 = .int .i64 j ∧ v0 = .slice q zs.length cap ∧ Hid (zs = xs ++ (wd ++ tyOf (ts.take j)) ∧ Grx w w0.heap.size wr (.slice q zs.length cap) zs)) (fun _ v16 _ => n - (intOf v16).toNat)
  case atStart => exact ⟨0, ys, q4, cap4, by omega, rfl, rfl, HY0.out, HG1.out⟩
  case round =>
    obtain ⟨j, zs, q, cap, hj, rfl, rfl, HL⟩ := hrel
    have hbr : Below w0.heap.size w0 wr := HB0.out.trans (HL.out.2.below hBs)
    by_cases hlt : j < n
    · have hltT : j < ts.length := by have := HN.out; omega
      obtain ⟨ux, hvx, hix⟩ := HX.out j hltT
      obtain ⟨bx, ox, kx, qx, nx, cx, rfl, _, rfl, a0, a1⟩ := (hix.on hbr).lies
      have hj1 : (j : Int) < (n : Int) := by omega
      have hj0 : j = 0 := by omega
      have hz1 : zs.length = xs.length + wd.length := by rw [HL.out.1, hj0]; simp [tyOf]
      have hzl : zs.length ≤ 140000000000000 + 7 * d + 5 := by omega
      obtain ⟨wa, hwa⟩ : ∃ wa, wa = wr.alloc (.cells #[.int .i64 kx, .slice qx nx cx] 24) := ⟨_, rfl⟩
      have hba : Below wr.heap.size wr wa := by rw [hwa]; exact (Below.refl _ _).alloc (Nat.le_refl _) _
      have hblk : wa.heap[wr.heap.size]? = some (.cells #[.int .i64 kx, .slice qx nx cx] 24 (0, 0)) := by rw [hwa]; exact blk_new wr _
      have HBlk := Lib.hid hblk
      have HHa := Lib.hid (HL.out.2.has.on hba)
      have HGa := Lib.hid (HL.out.2.on hba)
      have hBa : w0.heap.size ≤ wa.heap.size := Nat.le_trans hbr.size hba.size
      have c0 : wa.cell? ⟨wr.heap.size, 0, none⟩ = some (.int .i64 kx) := blk_cell hblk 0
      have c1 : wa.cell? ⟨wr.heap.size, 1, none⟩ = some (.slice qx nx cx) := blk_cell hblk 1
      have y0 : ∀ o, (wa.alloc o).cell? ⟨wr.heap.size, 0, none⟩ = some (.int .i64 kx) := fun o => blk_cell ((blk_old wa o (blk_lt hblk)).trans hblk) 0
      have y1 : ∀ o, (wa.alloc o).cell? ⟨wr.heap.size, 1, none⟩ = some (.slice qx nx cx) := fun o => blk_cell ((blk_old wa o (blk_lt hblk)).trans hblk) 1
      have HC : Hid (∀ w' v' l, Below w0.heap.size w0 w' → Has w' w0.heap.size v' l → l.length ≤ 140000000000000 + 7 * (d + 1) → Calls Tryz.prog 30 #[v', .agg #[.int .i64 kx, .slice qx nx cx]] w' (GrxV w' w0.heap.size (l ++ Tx.ty (ts[j]'hltT)))) := fun w' v' l h1 h2 h3 => HIH.out _ (List.getElem_mem hltT) (d + 1) w0 w' _ v' l (hty.out.2.2 _ (List.getElem_mem hltT)) HH0.out hvx h1 h2 h3
      have hty7 := ty_len (ts[j]'hltT) (d + 1) (hty.out.2.2 _ (List.getElem_mem hltT))
      have HZ : Hid (zs ++ [40] ++ Tx.ty (ts[j]'hltT) ++ [41] = xs ++ (wd ++ tyOf (ts.take (j + 1)))) := by
        show _ = _
        rw [HL.out.1, tyOf_next ts j hltT]
        simp
      obtain ⟨tt, htt⟩ : ∃ tt, tt = Tx.ty (ts[j]'hltT) := ⟨_, rfl⟩
      rw [← htt] at HC HZ hty7
      have HWa := Lib.hid hwa
      have HBr := Lib.hid hbr
      clear hvx hix hbr HL hwa hj0 hz1 hba hblk htt
      go_wp2_with fail
      rw [← HWa.out]
      clear HWa a0 a1
      go_region_law (first
        | (refine step_pushG (B := w0.heap.size) (xs := zs) (v := .slice q zs.length cap) (w := wa.drew) (H := wa.heap.size) (by rfl) HHa.out.drew 40 (by omega) hBa (.tmp 20) (.tmp 21) (by rfl) (by rfl) (by rfl) (by rfl) (by rfl) (by rfl) ?_
           intro q3 cap3 W5 ys5 HY5 hg3
           have hg3' : Grew wa w0.heap.size (.slice q zs.length cap) W5 (.slice q3 ys5.length cap3) ys5 := ⟨hg3.has, ⟨hg3.aside.os, hg3.aside.tape, hg3.aside.output, hg3.aside.size, hg3.aside.block⟩, hg3.fresh⟩
           have hgx := Grx.of hg3' HHa.out
           have HG3 := Lib.hid (HGa.out.trans hgx)
           have hk3 := hgx.blk HBlk.out (by decide)
           have d0 : W5.cell? ⟨wr.heap.size, 0, none⟩ = some (.int .i64 kx) := blk_cell hk3 0
           have d1 : W5.cell? ⟨wr.heap.size, 1, none⟩ = some (.slice qx nx cx) := blk_cell hk3 1
           have HBw3 := Lib.hid (HB0.out.trans (HG3.out.below hBs))
           have hyl : ys5.length ≤ 140000000000000 + 7 * d + 6 := by (rw [HY5.out, List.length_append, List.length_singleton]; omega)
           clear hg3 hg3' hk3 hgx)
        | (refine step_call2 (.tmp 22) (.tmp 23) 58 24 (by rfl) (by rfl) (by rfl) (by rfl) Tryz.func30 (by kernel_rfl) (by rfl) (HC.out W5 (.slice q3 ys5.length cap3) ys5 HBw3.out HG3.out.has (by omega)) ?_
           intro e w4 hh
           obtain ⟨q6, cap6, he6, hg6⟩ := hh.open
           refine ⟨_, he6, ?_⟩
           have HG6 := Lib.hid (HG3.out.trans hg6)
           obtain ⟨l6, hl6⟩ : ∃ l6, l6 = ys5 ++ tt := ⟨_, rfl⟩
           rw [← hl6] at HG6 ⊢
           have HL6 := Lib.hid hl6
           have hl6n : l6.length ≤ 140000000000100 := by (rw [hl6, List.length_append]; omega)
           clear hh hg6 he6 hl6))
      all_goals
        have hB6 : w0.heap.size ≤ w4.heap.size := Nat.le_trans hBs HG6.out.size
        have HH6 := Lib.hid HG6.out.has
        clear d0 d1 y0 y1 c0 c1
        go_wp2_with (first
          | (at_builtin; refine wp_pushG rfl HH6.out 41 (by omega) hB6 rfl rfl rfl rfl rfl rfl ?_
             intro q7 cap7 W7 zs7 HZ7 hg7
             have HG7 := Lib.hid (HG6.out.trans (Grx.of hg7 HH6.out))
             clear hg7)
          | fail)
        go_roundw
        case rel => exact ⟨j + 1, zs7, q7, cap7, by omega, by go_num, rfl, by rw [HZ7.out, HL6.out, HY5.out]; exact HZ.out, HG7.out⟩
        case measure => simp [intOf]; omega
    · have hjn : ¬ (j : Int) < (n : Int) := by omega
      have HE : Hid (xs ++ Tx.ty (.mk (m : Int) ts) = zs) := by
        show _ = _
        rw [HL.out.1, hty.out.1, List.take_of_length_le (by have := HN.out; omega)]
      have HG := Lib.hid HL.out.2
      clear HL hbr
      go_wp2
      go_ret
      rw [HE.out]
      exact ⟨q, cap, rfl, HG.out⟩
end Go.Proofs.YtpjcmahlnnglcaaGreatDoor
