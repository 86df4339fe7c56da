/- The landed scan: Whole. -/
import Derived.Test.YtmgcfkpmknogaaaGreatDoorA9
import Derived.Test.YtmgcfkpmknogaaaGreatDoorA8
namespace Go.Proofs.YtmgcfkpmknogaaaGreatDoor
open Go.RowKit Go.Maps

/-- while Whole runs: the file and the walk, behind j frames -/
structure WhI (w wr : World) (B g x k : Nat) (v : Value) (s : Dv.St) (G : Nat → Prop) (j : Nat) (X : Sc.Pos) : Prop where
  dev : KDev wr B g v { s with told := s.told + X.read } x k
  walk : ∃ v' g', KWalk wr w.heap.size (w.heap.size + 1) w.heap.size j v' g' X.wk G
  aside : Aside (fun i => i = g) w wr
  goes : Sc.goes s.b j = some X

section
variable {w : World} {B g x k : Nat} {v : Value} {s : Dv.St} {G : Nat → Prop}
theorem KWalk.far {w1 : World} {B a M n : Nat} {v : Value} {g : Int → Option Value} {s : Wk} {G : Nat → Prop} (h : KWalk w1 B a M n v g s G) {i : Nat} (hi : wOwn a M v i) : B ≤ i := by
  rcases hi with hi | hi | hi
  · rw [hi]; exact h.base.1
  · rw [hi]; exact h.base.2
  · exact (h.ents.lt i hi).1
/-- behind a call of the walk's -/
theorem WhI.after {w1 w2 : World} {n : Nat} {Y : Dv.St} {sw : Wk} {v1 : Value} {g1 : Int → Option Value} (hd : KDev w1 B g v Y x k) (hw : KWalk w1 w.heap.size (w.heap.size + 1) w.heap.size n v1 g1 sw G) (ha : Aside (fun i => i = g) w w1) (ha2 : Aside (wOwn (w.heap.size + 1) w.heap.size v1) w1 w2) (hG : ∀ i, i = g ∨ v.ownBlock = some i → G i) (hg : g < w.heap.size) :
    KDev w2 B g v Y x k ∧ Aside (fun i => i = g) w w2 := by
  refine ⟨hd.aside ha2 (fun hc => ?_) (fun i hi hc => ?_), ha.trans ha2 (fun i hi hc => ?_)⟩
  · have := hw.far hc; omega
  · have h3 := hw.off i (hG i (.inr hi))
    rcases hc with hc | hc | hc
    · exact h3.1 hc
    · exact h3.2.1 hc
    · exact h3.2.2 hc
  · have := hw.far hc; omega

set_option maxRecDepth 100000 in
set_option maxHeartbeats 4000000 in
theorem kWhole (h : KDev w B g v s x k) (hd : s.down = false) (hl : s.b.length ≤ 2097152) (ht : s.told ≤ 1000000000000) (hv : Hv w) (hB : 3 < B) (hBw : B ≤ w.heap.size) (hG : ∀ i, i = g ∨ v.ownBlock = some i → G i) (hGl : ∀ i, G i → i < w.heap.size) :
    Calls Tryz.prog 27 #[.pointer (some ⟨g, 0, none⟩)] w fun e w' => ∃ j X er v' g', Sc.goes s.b j = some X ∧ Sc.step s.b X = .error er ∧ e = .returned (.tuple #[.pointer (some ⟨w.heap.size + 1, 0, none⟩), .int .i64 (X.at_ : Nat), .int .i64 (er : Nat)]) ∧ KWalk w' w.heap.size (w.heap.size + 1) w.heap.size (j + 1) v' g' X.wk G ∧ KDev w' B g v { s with told := s.told + X.read + Sc.reads s.b X.at_ } x k ∧ Aside (fun i => i = g) w w' := by
  have HU := Lib.hid (kUp h)
  rw [hd] at HU
  have HN := Lib.hid (kNew14 w G hGl)
  have HH := Lib.hid h
  have HHv := Lib.hid hv
  have HG := Lib.hid hG
  have HGl := Lib.hid hGl
  have hgl := h.lt
  have hbase := h.base
  have HD := Lib.hid hd
  clear h hv hG hGl hd
  go_enter Tryz.func27, Tryz.ntmps27
  go_wp2_with fail
  refine HU.out.mono ?_
  rintro e w' ⟨rfl, hw'⟩
  rw [hw']
  clear hw' w' HU
  go_wp2_with fail
  refine HN.out.mono ?_
  rintro e w1 ⟨rfl, hk1, hb1, hs1⟩
  have HI1 : Hid (WhI w w1 B g x k v s G 0 Sc.begin_) := ⟨HH.out.below hb1, ⟨_, _, hk1⟩, aside_new hb1 _, rfl⟩
  clear hk1 hb1 hs1 HN HH
  go_wp2_with fail
  go_loopw [6] (fun v6 wr => ∃ j X, v6 = .int .i64 (X.at_ : Nat) ∧ Hid (WhI w wr B g x k v s G j X)) (fun v6 _ => s.b.length - (intOf v6).toNat)
  case atStart => exact ⟨0, Sc.begin_, rfl, HI1⟩
  case round =>
    obtain ⟨j, X, rfl, HI⟩ := hrel
    obtain ⟨hgd, hat, h8, hrd⟩ := Sc.goes_good HI.out.goes
    obtain ⟨v', g', hwk⟩ := HI.out.walk
    have hA := kAt HI.out.dev HD.out hl (by show s.told + X.read + s.b.length ≤ _; omega) (HHv.out.on (HI.out.aside.below hBw (fun i hi hc => by omega)) hB) hB (X.at_ : Nat)
    obtain ⟨A, hAA⟩ : ∃ A, A = X.at_ := ⟨_, rfl⟩
    have HSt : Hid (Sc.step s.b X = match Sc.at_ s.b (X.at_ : Nat) with
      | .error e => .error e
      | .ok (f, n) => if Sc.may X.wk f (X.at_ : Nat) = true then .ok ⟨n, Sc.take X.wk f (X.at_ : Nat), X.read + Sc.reads s.b (X.at_ : Nat)⟩ else .error 143) := rfl
    have HOk : Hid (∀ f n, Sc.at_ s.b (X.at_ : Nat) = .ok (f, n) → f.wf ∧ n ≤ s.b.length ∧ X.at_ < n) := fun f n he => by
      obtain ⟨a1, a2, a3, a4, a5, a6, a7⟩ := Sc.at_ok he
      exact ⟨a4, a6, by rw [a5]; omega⟩
    have HNe : Hid (∀ er, Sc.at_ s.b (X.at_ : Nat) = .error er → er ≠ 0) := fun er he => at_ne14 he
    obtain ⟨r, hr⟩ : ∃ r, r = Sc.at_ s.b (X.at_ : Nat) := ⟨_, rfl⟩
    rw [← hr] at HSt HOk HNe
    have hA2 : Calls Tryz.prog 28 #[.pointer (some ⟨g, 0, none⟩), .int .i64 (X.at_ : Nat)] wr fun e w' => AtA r wr e w' ∧ KDev w' B g v { s with told := s.told + X.read + Sc.reads s.b (X.at_ : Nat) } x k ∧ Aside (fun k => k = g) wr w' := by rw [hr]; exact hA
    have HA := Lib.hid hA2
    have HWk := Lib.hid hwk
    have hatI : (X.at_ : Int) ≤ 2097152 := by omega
    clear hA hA2 hr hwk hgd hAA A
    go_wp2_with fail
    refine HA.out.mono ?_
    rintro e w2 ⟨hans, hdv, has⟩
    have hw2 : KWalk w2 w.heap.size (w.heap.size + 1) w.heap.size j v' g' X.wk G := HWk.out.aside (has.mono fun i _ hi => HG.out i (.inl hi)) (fun i hi => .inl hi) (fun i hi => Nat.lt_of_lt_of_le (HWk.out.low i hi) has.size)
    have haw : Aside (fun i => i = g) w w2 := HI.out.aside.trans has (fun _ _ h => h)
    have HGo := Lib.hid HI.out.goes
    cases r with
    | error er =>
      replace hans : e = .returned (.tuple #[.agg #[.int .i64 0, .int .i64 0, .slice none 0 0, .int .i64 0, .int .i64 0, .int .i64 0, .slice none 0 0, .int .i64 0, .int .i64 0, .int .i64 0, .slice none 0 0], .int .i64 0, .int .i64 (er : Nat)]) := hans
      subst hans
      have hne := HNe.out er rfl
      have g0 : ((er : Int) == 0) = false := by rw [beq_eq_false_iff_ne]; omega
      have g1 : ((er : Int) != 0) = true := by rw [bne_iff_ne]; omega
      have HE : Hid (Sc.step s.b X = .error er) := HSt.out
      have HW2 := Lib.hid hw2
      have HDv := Lib.hid hdv
      have HAw := Lib.hid haw
      clear hw2 hdv haw has hne HNe HOk HSt HA HWk HI
      go_wp2
      go_ret3
      have hbo : ∀ o, Below w2.heap.size w2 (w2.alloc o) := fun o => (Below.refl _ _).alloc (Nat.le_refl _) o
      exact ⟨j, X, er, v', g', HGo.out, HE.out, rfl, (HW2.out.on (hbo _)).more (Nat.le_succ j), HDv.out.below (hbo _), HAw.out.alloc _⟩
    | ok y =>
      obtain ⟨f, m⟩ := y
      obtain ⟨u, rfl, hfo⟩ : ∃ u, e = .returned (.tuple #[.agg u, .int .i64 (m : Nat), .int .i64 0]) ∧ FOwn w2 wr.heap.size u f := hans
      obtain ⟨hwf, hml, hmx⟩ := HOk.out f m rfl
      have hfl := hfo.lies
      obtain ⟨sp, sc, bp, bc, ep, ec, hu, -⟩ := hfo.out
      unfold cells11 at hu
      subst hu
      obtain ⟨b0, hb0⟩ : ∃ x, x = f.kind := ⟨_, rfl⟩
      obtain ⟨b1, hb1⟩ : ∃ x, x = f.number := ⟨_, rfl⟩
      obtain ⟨b2, hbb2⟩ : ∃ x, x = f.cols.length := ⟨_, rfl⟩
      obtain ⟨b3, hb3⟩ : ∃ x, x = f.seq := ⟨_, rfl⟩
      obtain ⟨b4, hb4⟩ : ∃ x, x = f.first := ⟨_, rfl⟩
      obtain ⟨b5, hb5⟩ : ∃ x, x = f.rows := ⟨_, rfl⟩
      obtain ⟨b6, hb6⟩ : ∃ x, x = f.block.length := ⟨_, rfl⟩
      obtain ⟨b7, hb7⟩ : ∃ x, x = f.index.at_ := ⟨_, rfl⟩
      obtain ⟨b8, hb8⟩ : ∃ x, x = f.index.frames := ⟨_, rfl⟩
      obtain ⟨b9, hb9⟩ : ∃ x, x = f.index.rows := ⟨_, rfl⟩
      obtain ⟨b10, hb10⟩ : ∃ x, x = f.index.entries.length := ⟨_, rfl⟩
      rw [← hb0, ← hb1, ← hbb2, ← hb3, ← hb4, ← hb5, ← hb6, ← hb7, ← hb8, ← hb9, ← hb10] at hfl ⊢
      obtain ⟨w3, hw3⟩ : ∃ w3, w3 = w2.alloc (.cells #[.int .i64 b0, .int .i64 b1, .slice sp b2 sc, .int .i64 b3, .int .i64 b4, .int .i64 b5, .slice bp b6 bc, .int .i64 b7, .int .i64 b8, .int .i64 b9, .slice ep b10 ec] 53) := ⟨_, rfl⟩
      have hb23 : Below w2.heap.size w2 w3 := by rw [hw3]; exact (Below.refl _ _).alloc (Nat.le_refl _) _
      have HW3 : Hid (w2.alloc (.cells #[.int .i64 b0, .int .i64 b1, .slice sp b2 sc, .int .i64 b3, .int .i64 b4, .int .i64 b5, .slice bp b6 bc, .int .i64 b7, .int .i64 b8, .int .i64 b9, .slice ep b10 ec] 53) = w3) := hw3.symm
      have hk3 := hw2.on hb23
      have hv3 : Hv w3 := HHv.out.on ((haw.below hBw (fun i hi hc => by omega)).trans (hb23.mono (by have := haw.size; omega))) hB
      have HNx := Lib.hid (kNext hk3 f hwf _ (hfl.on hb23) (X.at_ : Nat) hv3 (by omega) (by have := haw.size; have := hb23.size; omega))
      have HK3 := Lib.hid hk3
      have HD3 := Lib.hid (hdv.below hb23)
      have HA3 : Hid (Aside (fun i => i = g) w w3) := haw.trans (aside_new hb23 (fun i => i = g)) (fun _ _ h => h)
      obtain ⟨mb, hmb⟩ : ∃ mb, mb = Sc.may X.wk f (X.at_ : Nat) := ⟨_, rfl⟩
      rw [← hmb] at HNx
      have HSt2 : Hid (Sc.step s.b X = if mb = true then .ok ⟨m, Sc.take X.wk f (X.at_ : Nat), X.read + Sc.reads s.b (X.at_ : Nat)⟩ else .error 143) := by rw [hmb]; exact HSt.out
      have HTk : Hid (Sc.next X.wk f (X.at_ : Nat) = if mb = true then Sc.take X.wk f (X.at_ : Nat) else X.wk) := by rw [hmb]; exact rfl
      have hmI : (m : Int) ≤ 2097152 := by omega
      clear hfo hfl hw2 hdv haw has hk3 hv3 hb23 hw3 hmb HSt HNe HOk HA HWk HI hb0 hb1 hbb2 hb3 hb4 hb5 hb6 hb7 hb8 hb9 hb10 hwf
      go_wp2_with fail
      rw [HW3.out]
      refine HNx.out.mono ?_
      rintro e w4 ⟨rfl, v4, g4, hk4, ha4, hv4⟩
      obtain ⟨hd4, haw4⟩ := WhI.after HD3.out HK3.out HA3.out ha4 HG.out hgl
      have HK4 := Lib.hid hk4
      have HD4 := Lib.hid hd4
      have HA4 := Lib.hid haw4
      clear hk4 ha4 hv4 hd4 haw4 HNx HK3 HD3 HA3 HW3
      cases mb with
      | false =>
        have HE : Hid (Sc.step s.b X = .error 143) := HSt2.out
        have HT2 : Hid (Sc.next X.wk f (X.at_ : Nat) = X.wk) := HTk.out
        rw [HT2.out] at HK4
        clear HSt2 HTk
        go_wp2
        go_ret3
        exact ⟨j, X, 143, v4, g4, HGo.out, HE.out, rfl, HK4.out, HD4.out, HA4.out⟩
      | true =>
        have HE := Lib.hid (Sc.goes_succ HGo.out HSt2.out)
        have HT2 : Hid (Sc.next X.wk f (X.at_ : Nat) = Sc.take X.wk f (X.at_ : Nat)) := HTk.out
        rw [HT2.out] at HK4
        have HI2 : Hid (WhI w w4 B g x k v s G (j + 1) ⟨m, Sc.take X.wk f (X.at_ : Nat), X.read + Sc.reads s.b (X.at_ : Nat)⟩) := ⟨by rw [← Nat.add_assoc]; exact HD4.out, ⟨_, _, HK4.out⟩, HA4.out, HE.out⟩
        clear HSt2 HTk HK4 HD4 HA4 HE HT2
        go_wp2
        go_roundw
        case rel => exact ⟨j + 1, _, rfl, HI2⟩
        case measure => simp [intOf]; omega
end
end Go.Proofs.YtmgcfkpmknogaaaGreatDoor
