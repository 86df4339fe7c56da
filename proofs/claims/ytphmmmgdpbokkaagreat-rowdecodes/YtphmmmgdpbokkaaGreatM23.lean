/- Rw, WRowR, WRowS: put together. -/
import Derived.Test.YtphmmmgdpbokkaaGreatM11
import Derived.Test.YtphmmmgdpbokkaaGreatM12
import Derived.Test.YtphmmmgdpbokkaaGreatM13
import Derived.Test.YtphmmmgdpbokkaaGreatM20

/- Plain: rows, their bytes and how they are read; what the document says of them. -/
namespace Go.Proofs.YtphmmmgdpbokkaaGreat
namespace Rw

/-- why a value isn't one of a type that may be -/
def vErr (t : Ty) (v : V) : Nat := if chk 1 v ≠ 0 then chk 1 v else if Sch.is v t then 0 else 80
/-- P8.1: the error -/
def encErr (t : Ty) (v : V) : Nat := if Ty.check 1 t ≠ 0 then Ty.check 1 t else vErr t v
/-- P8.1: the bytes -/
def encB (t : Ty) (v : V) : List UInt8 := if encErr t v = 0 then Sch.vB v else []
/-- column by column -/
def colsErr : List Col → List V → Nat
  | c :: s, v :: r => if vErr c.ty v = 0 then colsErr s r else vErr c.ty v
  | _, _ => 0
def bytes (vs : List V) : List UInt8 := (vs.map Sch.vB).flatten
/-- P8.3 -/
def err (s : List Col) (vs : List V) : Nat := if Sch.err s ≠ 0 then Sch.err s else if vs.length ≠ s.length then 80 else if colsErr s vs ≠ 0 then colsErr s vs else if 1024 < (bytes vs).length then 2 else 0
/-- P8.4 -/
def out (s : List Col) (vs : List V) : List UInt8 := if err s vs = 0 then bytes vs else []
/-- P8.2 -/
def readV (t : Ty) (l : List UInt8) (a : Int) : Except Nat (V × Nat) := if Ty.check 1 t ≠ 0 then .error (Ty.check 1 t) else if a < 0 ∨ (l.length : Int) < a then .error 30 else match Sch.rdV t (l.drop a.toNat) with
  | .error e => .error e
  | .ok (v, k) => .ok (v, a.toNat + k)
/-- values of the columns' types -/
def rd : List Col → List UInt8 → Except Nat (List V × Nat)
  | [], _ => .ok ([], 0)
  | c :: s, l => match Sch.rdV c.ty l with
    | .error e => .error e
    | .ok (v, k) => match rd s (l.drop k) with
      | .error e => .error e
      | .ok (vs, j) => .ok (v :: vs, k + j)
/-- P8.5 -/
def read (s : List Col) (l : List UInt8) (a : Int) : Except Nat (List V × Nat) := if Sch.err s ≠ 0 then .error (Sch.err s) else if a < 0 ∨ (l.length : Int) < a then .error 30 else match rd s (l.drop a.toNat) with
  | .error e => .error e
  | .ok (vs, k) => if 1024 < k then .error 2 else .ok (vs, a.toNat + k)

theorem vErr_zero {t : Ty} {v : V} (h : vErr t v = 0) : Ty.check 1 t = 0 ∧ chk 1 v = 0 ∧ Sch.of v t = true := by
  unfold vErr at h
  split at h
  · next h0 => exact absurd h h0
  · split at h
    · next h1 =>
      unfold Sch.is at h1
      simp only [Bool.and_eq_true, decide_eq_true_eq] at h1
      exact ⟨h1.1.1, h1.1.2, h1.2⟩
    · omega
theorem vErr_make {t : Ty} {v : V} (h1 : Ty.check 1 t = 0) (h2 : chk 1 v = 0) (h3 : Sch.of v t = true) : vErr t v = 0 := by
  unfold vErr
  rw [if_neg (by omega), if_pos]
  unfold Sch.is
  rw [decide_eq_true h1, decide_eq_true h2, h3]
  rfl
theorem bytes_nil : bytes [] = [] := rfl
theorem bytes_cons (v : V) (r : List V) : bytes (v :: r) = Sch.vB v ++ bytes r := rfl
theorem bytes_fix (vs : List V) : bytes (vs.map V.fix) = bytes vs := by
  unfold bytes
  rw [List.map_map]
  congr 1
  exact List.map_congr_left (fun v _ => Sch.vB_fix v)

/-- a row's bytes are read as it -/
theorem rd_put (r : List UInt8) : ∀ (s : List Col) (vs : List V), vs.length = s.length → colsErr s vs = 0 → (∀ v ∈ vs, v.wf) → rd s (bytes vs ++ r) = .ok (vs.map V.fix, (bytes vs).length)
  | [], [], _, _, _ => rfl
  | [], _ :: _, h, _, _ => by simp at h
  | _ :: _, [], h, _, _ => by simp at h
  | c :: s, v :: vs, h, he, hw => by
    have h0 : vErr c.ty v = 0 := by
      rw [colsErr] at he
      split at he
      · assumption
      · next h => exact absurd he h
    have he' : colsErr s vs = 0 := by rw [colsErr, if_pos h0] at he; exact he
    obtain ⟨h1, h2, h3⟩ := vErr_zero h0
    rw [rd, bytes_cons, List.append_assoc, Sch.rdV_put c.ty 1 v _ h1 h2 h3 (hw v (by simp))]
    dsimp only
    rw [List.drop_left, rd_put r s vs (by simpa using h) he' (fun x hx => hw x (by simp [hx]))]
    simp
/-- what is read has just these bytes -/
theorem rd_ok : ∀ (s : List Col) (l : List UInt8) (vs : List V) (k : Nat), (∀ c ∈ s, Ty.check 1 c.ty = 0) → rd s l = .ok (vs, k) → vs.length = s.length ∧ k = (bytes vs).length ∧ (∃ r, l = bytes vs ++ r) ∧ colsErr s vs = 0 ∧ ∀ v ∈ vs, V.fix v = v ∧ v.wf
  | [], l, vs, k, _, h => by
    rw [rd] at h
    injection h with h
    injection h with h1 h2
    subst h1 h2
    exact ⟨rfl, rfl, ⟨l, rfl⟩, rfl, fun v hv => by cases hv⟩
  | c :: s, l, vs, k, ht, h => by
    rw [rd] at h
    split at h
    · cases h
    · next v k1 hv =>
      split at h
      · cases h
      · next vs' j hr =>
        injection h with h
        injection h with h1 h2
        subst h1 h2
        obtain ⟨a1, ⟨r1, a2⟩, a3, a4, a5, a6⟩ := Sch.rdV_ok c.ty 1 l v k1 (ht c (by simp)) hv
        obtain ⟨b1, b2, ⟨r2, b3⟩, b4, b5⟩ := rd_ok s (l.drop k1) vs' j (fun x hx => ht x (by simp [hx])) hr
        have e1 : l.drop k1 = r1 := by rw [a2, a1, List.drop_left]
        refine ⟨by simp [b1], by rw [bytes_cons, List.length_append, a1, b2], ⟨r2, by rw [bytes_cons, List.append_assoc, ← b3, e1]; exact a2⟩, ?_, fun x hx => ?_⟩
        · rw [colsErr, if_pos (vErr_make (ht c (by simp)) a3 a4)]
          exact b4
        · rcases List.mem_cons.1 hx with rfl | hx
          · exact ⟨a5, a6⟩
          · exact b5 x hx
theorem err_open {s : List Col} {vs : List V} (h : err s vs = 0) : Sch.err s = 0 ∧ vs.length = s.length ∧ colsErr s vs = 0 ∧ (bytes vs).length ≤ 1024 := by
  unfold err at h
  split at h
  · next h0 => exact absurd h h0
  · next h0 =>
    split at h
    · omega
    · next h1 =>
      split at h
      · next h2 => exact absurd h h2
      · next h2 =>
        split at h
        · omega
        · next h3 => exact ⟨by omega, by omega, by omega, by omega⟩
theorem err_make {s : List Col} {vs : List V} (h1 : Sch.err s = 0) (h2 : vs.length = s.length) (h3 : colsErr s vs = 0) (h4 : (bytes vs).length ≤ 1024) : err s vs = 0 := by
  unfold err
  rw [if_neg (by omega), if_neg (by omega), if_neg (by omega), if_neg (by omega)]
theorem types_ok {s : List Col} (h : Sch.err s = 0) : ∀ c ∈ s, Ty.check 1 c.ty = 0 := fun c hc => by
  obtain ⟨l', h'⟩ := Sch.colsErr_mem s [] (Sch.err_open h).2.2.1 c hc
  exact (Sch.col_open h').2.2.1
/-- P8.6: there and back -/
theorem read_put {s : List Col} {vs : List V} (h : err s vs = 0) (hw : ∀ v ∈ vs, v.wf) (a r : List UInt8) : read s (a ++ (bytes vs ++ r)) (a.length : Int) = .ok (vs.map V.fix, a.length + (bytes vs).length) := by
  obtain ⟨h1, h2, h3, h4⟩ := err_open h
  unfold read
  rw [if_neg (by omega), if_neg (by rw [List.length_append]; omega), Int.toNat_natCast, List.drop_left, rd_put r s vs h2 h3 hw]
  dsimp only
  rw [if_neg (by omega)]
/-- P8.6: back and there -/
theorem read_ok {s : List Col} {l : List UInt8} {a : Int} {vs : List V} {k : Nat} (h : read s l a = .ok (vs, k)) : 0 ≤ a ∧ a ≤ l.length ∧ k = a.toNat + (bytes vs).length ∧ k ≤ l.length ∧ (l.drop a.toNat).take (bytes vs).length = bytes vs ∧ err s vs = 0 ∧ ∀ v ∈ vs, V.fix v = v ∧ v.wf := by
  unfold read at h
  split at h
  · cases h
  · next h0 =>
    split at h
    · cases h
    · next h1 =>
      split at h
      · cases h
      · next vs' j hr =>
        split at h
        · cases h
        · next h2 =>
          injection h with h
          injection h with h3 h4
          subst h3 h4
          have h0' : Sch.err s = 0 := by omega
          obtain ⟨b1, b2, ⟨r, b3⟩, b4, b5⟩ := rd_ok s _ _ _ (types_ok h0') hr
          have hlen := congrArg List.length b3
          rw [List.length_drop, List.length_append] at hlen
          refine ⟨by omega, by omega, by rw [b2], by omega, by rw [b3, List.take_left], err_make h0' b1 b4 (by omega), b5⟩
/-- P8.7 -/
theorem begins {s : List Col} {q r : List V} (hq : err s q = 0) (hr : err s r = 0) (wq : ∀ v ∈ q, v.wf) (wr : ∀ v ∈ r, v.wf) : (∃ t, bytes r = bytes q ++ t) ↔ q.map V.fix = r.map V.fix := by
  obtain ⟨_, a2, a3, _⟩ := err_open hq
  obtain ⟨_, b2, b3, _⟩ := err_open hr
  constructor
  · rintro ⟨t, ht⟩
    have h1 := rd_put t s q a2 a3 wq
    have h2 := rd_put [] s r b2 b3 wr
    rw [List.append_nil, ht] at h2
    rw [h1] at h2
    injection h2 with h2
    injection h2 with h2 _
  · intro he
    refine ⟨[], ?_⟩
    rw [List.append_nil, ← bytes_fix r, ← bytes_fix q, he]
end Rw
end Go.Proofs.YtphmmmgdpbokkaaGreat

/- The document's value, EncodeValue, bytesOf, Check, Encode of rows. -/
namespace Go.Proofs.YtphmmmgdpbokkaaGreat
open Go.RowKit

attribute [local go_sem] run_store_float

set_option maxRecDepth 100000 in
set_option maxHeartbeats 1000000 in
theorem refValue8 (y : Ty) (x : V) (w : World) (u v : Array Value) (hy : TLies w u y) (hx : VLies w v x) : Calls Tryz.prog 38 #[.agg u, .agg v] w fun e w' => e = .returned (.int .i64 (Rw.vErr y x : Nat)) ∧ Below w.heap.size w w' := by
  obtain ⟨k, i, b, t, xs⟩ := x
  obtain ⟨k', ys⟩ := y
  obtain ⟨p, c, rfl, -⟩ := hx.open
  obtain ⟨q, e, rfl, -⟩ := hy.open
  obtain ⟨W0, hW0⟩ : ∃ W0, W0 = (w.alloc (.cells (cells2 k' q ys.length e) 51)).alloc (.cells (cells5 k i b t p xs.length c) 30) := ⟨_, rfl⟩
  have HB0 : Hid (Below w.heap.size w W0) := by rw [hW0]; exact ((Below.refl _ _).alloc (Nat.le_refl _) _).alloc (by simp) _
  have HX := Lib.hid (hx.on HB0.out)
  have HTy := Lib.hid (hy.on HB0.out)
  have HCv := Lib.hid (refCheck6 _ W0 _ HX.out)
  have HIs := Lib.hid (fun w' (hb : Below W0.heap.size W0 w') => refIs7 _ _ w' _ _ (HX.out.on hb) (HTy.out.on hb))
  have HY : Hid (W0.cell? ⟨w.heap.size + 1, 0, none⟩ = some (.int .i64 k) ∧ W0.cell? ⟨w.heap.size + 1, 1, none⟩ = some (.int .i64 i) ∧ W0.cell? ⟨w.heap.size + 1, 2, none⟩ = some (.float .f64 b) ∧ W0.cell? ⟨w.heap.size + 1, 3, none⟩ = some (.string t) ∧ W0.cell? ⟨w.heap.size + 1, 4, none⟩ = some (.slice p xs.length c) ∧ W0.cell? ⟨w.heap.size, 0, none⟩ = some (.int .i64 k') ∧ W0.cell? ⟨w.heap.size, 1, none⟩ = some (.slice q ys.length e)) := by rw [hW0]; exact ⟨by simp [cells5], by simp [cells5], by simp [cells5], by simp [cells5], by simp [cells5], by simp [cells2], by simp [cells2]⟩
  have HW0 := Lib.hid hW0
  obtain ⟨R, hR⟩ : ∃ R, R = Rw.vErr (.mk k' ys) (.mk k i b t xs) := ⟨_, rfl⟩
  have HI := Lib.hid (hR.trans (by rw [Rw.vErr] : Rw.vErr (.mk k' ys) (.mk k i b t xs) = _))
  rw [← hR]
  obtain ⟨cv, hcv⟩ : ∃ cv, cv = chk 1 (.mk k i b t xs) := ⟨_, rfl⟩
  rw [← hcv] at HCv HI
  obtain ⟨co, hco⟩ : ∃ co, co = Sch.is (.mk k i b t xs) (.mk k' ys) := ⟨_, rfl⟩
  rw [← hco] at HI HIs
  clear hW0 hx hy hR hcv hco HX HTy
  unfold cells5 cells2 at *
  go_enter Tryz.func38, Tryz.ntmps38
  go_wp2_with fail
  rw [← HW0.out]
  clear HW0
  refine HCv.out.mono ?_
  rintro e w1 ⟨rfl, hb1⟩
  have HB1 := Lib.hid hb1
  clear hb1
  by_cases h1 : cv = 0
  · have g1 : ((cv : Int) != 0) = false := bne_f (by omega)
    obtain ⟨y0, y1, y2, y3, y4, y5, y6⟩ := HY.out
    have c0 := cell_on HB1.out y0
    have c1 := cell_on HB1.out y1
    have c2 := cell_on HB1.out y2
    have c3 := cell_on HB1.out y3
    have c4 := cell_on HB1.out y4
    have c5 := cell_on HB1.out y5
    have c6 := cell_on HB1.out y6
    have HI1 : Hid (R = if co then 0 else 80) := by show _ = _; rw [HI.out, if_neg (by omega)]
    have HCi := Lib.hid (HIs.out w1 HB1.out)
    clear y0 y1 y2 y3 y4 y5 y6 h1 HI HIs HY HCv
    go_wp2_with fail
    refine HCi.out.mono ?_
    rintro e w2 ⟨rfl, hb2⟩
    have HB2 := Lib.hid ((HB0.out.trans (HB1.out.mono HB0.out.size)).trans (hb2.mono (HB0.out.trans (HB1.out.mono HB0.out.size)).size))
    clear hb2 c0 c1 c2 c3 c4 c5 c6 HB1 HCi
    cases co with
    | true =>
      have HE : Hid (R = 0) := by show _ = _; rw [HI1.out]; rfl
      clear HI1
      go_wp2
      go_ret
      exact ⟨by rw [HE.out]; rfl, HB2.out⟩
    | false =>
      have HE : Hid (R = 80) := by show _ = _; rw [HI1.out]; rfl
      clear HI1
      go_wp2
      go_ret
      exact ⟨by rw [HE.out]; rfl, HB2.out⟩
  · have g1 : ((cv : Int) != 0) = true := bne_t (by omega)
    have HE : Hid (R = cv) := by show _ = _; rw [HI.out, if_pos h1]
    have HB2 := Lib.hid (HB0.out.trans (HB1.out.mono HB0.out.size))
    clear h1 HI HIs HY HCv HB1
    go_wp2
    go_ret
    exact ⟨by rw [HE.out]; rfl, HB2.out⟩

/-- what encoding answers: bytes of one's own, or nothing and the error -/
def EncR (w : World) (er : Nat) (l : List UInt8) (e : Ending) (w' : World) : Prop :=
  (er = 0 ∧ ∃ q cap, e = .returned (.tuple #[.slice q l.length cap, .int .i64 0]) ∧ Has w' w.heap.size (.slice q l.length cap) l ∧ Below w.heap.size w w') ∨
  (er ≠ 0 ∧ e = .returned (.tuple #[.slice none 0 0, .int .i64 (er : Nat)]) ∧ Below w.heap.size w w')

end Go.Proofs.YtphmmmgdpbokkaaGreat

/- The document's bytesOf, Check, Encode of rows. -/
namespace Go.Proofs.YtphmmmgdpbokkaaGreat
open Go.RowKit

attribute [local go_sem] run_store_float

theorem bytes_small (xs : List V) (hn : xs.length ≤ 16) (hc : ∀ v ∈ xs, chk 1 v = 0) : (Rw.bytes xs).length ≤ 320000000000 := by
  have key : ∀ xs : List V, (∀ v ∈ xs, chk 1 v = 0) → (Rw.bytes xs).length ≤ xs.length * 20000000000 := by
    intro xs
    induction xs with
    | nil => intro _; simp [Rw.bytes]
    | cons v r ih =>
      intro h
      rw [Rw.bytes_cons, List.length_append, List.length_cons]
      have h1 := Sch.vB_small (h v (by simp)) (Nat.le_refl _)
      have h2 := ih (fun x hx => h x (by simp [hx]))
      omega
  have := key xs hc
  omega

set_option maxRecDepth 100000 in
set_option maxHeartbeats 1000000 in
theorem refBytesOf8 (xs : List V) (p : Option Addr) (c : Nat) (w : World) (hn : xs.length ≤ 16) (hx : Items w p xs) (hc : ∀ v ∈ xs, chk 1 v = 0 ∧ v.wf) :
    Calls Tryz.prog 19 #[.agg #[.slice p xs.length c]] w (FreshB w (Rw.bytes xs)) := by
  have hlen := bytes_small xs hn (fun v hv => (hc v hv).1)
  have HC0 := Lib.hid hc
  have HX := Lib.hid hx
  obtain ⟨W0, hW0⟩ : ∃ W0, W0 = w.alloc (.cells #[.slice p xs.length c] 27) := ⟨_, rfl⟩
  have HB0 : Hid (Below w.heap.size w W0) := by rw [hW0]; exact (Below.refl _ _).alloc (Nat.le_refl _) _
  have y0 : W0.cell? ⟨w.heap.size, 0, none⟩ = some (.slice p xs.length c) := by rw [hW0]; simp
  have hs0 : W0.heap.size = w.heap.size + 1 := by rw [hW0]; simp
  have Y0 := Lib.hid y0
  have HW0 := Lib.hid hW0
  have HEB : Hid (Rw.bytes xs = (xs.map Sch.vB).flatten) := rfl
  rw [HEB.out] at hlen
  have hni : (xs.length : Int) ≤ 16 := by omega
  clear hW0 hx hc y0
  go_enter Tryz.func19, Tryz.ntmps19
  go_wp2_with fail
  rw [← HW0.out]
  clear HW0
  go_loopw [3, 4] (fun v2 v3 wr => ∃ j : Nat, j ≤ xs.length ∧ v3 = .int .i64 j ∧ Hid (Has wr (w.heap.size + 1) v2 ((xs.take j).map Sch.vB).flatten ∧ Below (w.heap.size + 1) W0 wr)) (fun _ v3 _ => xs.length - (intOf v3).toNat)
  case atStart => exact ⟨0, by omega, rfl, has_nil _ _, Below.refl _ _⟩
  case round =>
    obtain ⟨j, hj, rfl, HK⟩ := hrel
    have n0 : wr.cell? ⟨w.heap.size, 0, none⟩ = some (.slice p xs.length c) := by rw [HK.out.2.cell (p := ⟨w.heap.size, 0, none⟩) (by show w.heap.size < _; omega)]; exact Y0.out
    have hbw : Below w.heap.size w wr := HB0.out.trans (HK.out.2.mono (by omega))
    by_cases hlt : j < xs.length
    · obtain ⟨ux, hvx, hix⟩ := HX.out j hlt
      obtain ⟨bx, ox, kx, ix, fx, tx, qx, nx, cx, rfl, _, rfl, a0, a1, a2, a3, a4⟩ := (hix.on hbw).lies
      have hcj := HC0.out _ (List.getElem_mem hlt)
      have HC := Lib.hid (refValueBytes7 _ 1 wr _ (Nat.le_refl _) hcj.1 hcj.2 (hvx.on hbw))
      have hj1 : (j : Int) < (xs.length : Int) := by omega
      have HO := Lib.hid HK.out.1
      have HBk := Lib.hid HK.out.2
      have hs1 : w.heap.size + 1 ≤ wr.heap.size := by have := HK.out.2.size; omega
      have ht1 := Sch.flatten_take_le Sch.vB xs (j + 1)
      rw [Sch.flatten_take Sch.vB xs j hlt, List.length_append] at ht1
      have HFT := Lib.hid (Sch.flatten_take Sch.vB xs j hlt)
      obtain ⟨l1, hl1⟩ : ∃ l1, l1 = ((xs.take j).map Sch.vB).flatten := ⟨_, rfl⟩
      obtain ⟨l2, hl2⟩ : ∃ l2, l2 = Sch.vB xs[j] := ⟨_, rfl⟩
      rw [← hl1] at HO ht1 HFT
      rw [← hl2] at HC ht1 HFT
      clear hvx hix hbw HK hl1 hl2 hcj
      unfold cells5 at HC
      go_wp2_with fail
      refine HC.out.mono ?_
      rintro e w2 ⟨q, cap, rfl, hq, hb2⟩
      have HQ := Lib.hid hq
      have HO2 := Lib.hid (HO.out.on hb2)
      have HB2 := Lib.hid (HBk.out.trans (hb2.mono hs1))
      have hs2 : w.heap.size + 1 ≤ w2.heap.size := by have := hb2.size; omega
      clear hb2 hq a0 a1 a2 a3 a4 HC HO
      go_wp2_with (at_builtin; obtain ⟨p2, c2, he2, hat2, -⟩ := HQ.out.at; injection he2 with he2; refine wp_ontoL (B := w.heap.size + 1) (p := q) HO2.out (by rw [he2]; exact hat2) (by omega) hs2 rfl rfl rfl rfl rfl ?_; intro ys q3 cap3 W HYs hH3 ha3 hb3)
      have HR : Hid (Has W (w.heap.size + 1) (.slice q3 ys.length cap3) ((xs.take (j + 1)).map Sch.vB).flatten ∧ Below (w.heap.size + 1) W0 W) := by
        refine ⟨?_, HB2.out.trans (aside_low ha3 HO2.out hs2)⟩
        rw [HFT.out, ← HYs.out]
        exact hH3
      clear hH3 ha3 hb3
      go_roundw
      case rel => exact ⟨j + 1, by omega, by go_num, HR⟩
      case measure => simp [intOf]; omega
    · have hjn : ¬ (j : Int) < (xs.length : Int) := by omega
      have he : ((xs.take j).map Sch.vB).flatten = (xs.map Sch.vB).flatten := by rw [List.take_of_length_le (by omega)]
      have HO := HK.out.1
      rw [he] at HO
      obtain ⟨L, hL⟩ : ∃ L, L = (xs.map Sch.vB).flatten := ⟨_, rfl⟩
      rw [← hL] at HO
      have HLl := Lib.hid hL
      obtain ⟨q, cap2, hv, -, -⟩ := HO.at
      subst hv
      replace HO := Lib.hid (HO.lower (B' := w.heap.size) (by omega))
      have HF := Lib.hid hbw
      clear HK he hbw hlt hL
      go_wp2
      go_ret
      rw [HEB.out, ← HLl.out]
      exact ⟨q, cap2, rfl, HO.out, HF.out⟩
end Go.Proofs.YtphmmmgdpbokkaaGreat
