/- K15B, K15C, K15D, K15E: put together. -/
import Derived.Test.YtmgcfkpmknogaaaGreatDoorA6
import Derived.Test.YtmgcfkpmknogaaaGreatDoorA10
import Derived.Test.YtmgcfkpmknogaaaGreatDoorA8
import Derived.Test.YtmgcfkpmknogaaaGreatDoorK14I
import Derived.Test.YtmgcfkpmknogaaaGreatDoorK15A

/- The landed repair: is one of the runs from a place on a frame? -/
namespace Go.Proofs.YtmgcfkpmknogaaaGreatDoor
open Go.RowKit

set_option maxRecDepth 100000 in
set_option maxHeartbeats 1000000 in
theorem frameFrom1 (a : Int) (p : Option Addr) (c : Nat) (l : List UInt8) (hl : l.length ≤ 140737488351232) (hlc : l.length ≤ c) (w : World) (hv : Hv w) (h : At w p l) :
    Calls Tryz.prog 137 #[.agg #[.int .i64 a, .slice p l.length c]] w fun e w' => e = .returned (.bool (Rp.isF l)) ∧ Below w.heap.size w w' := by
  obtain ⟨W, hW⟩ : ∃ W, W = w.alloc (.cells #[.int .i64 a, .slice p l.length c] 91) := ⟨_, rfl⟩
  have hb0 : Below w.heap.size w W := by rw [hW]; exact (Below.refl _ _).alloc (Nat.le_refl _) _
  have HD := Lib.hid (decodeF p c l hl hlc W (hv.next hb0) (h.on hb0))
  have HB := Lib.hid hb0
  have HW := Lib.hid hW.symm
  have HF : Hid (Rp.isF l = match Fr.dec l with
    | .ok _ => true
    | .error _ => false) := rfl
  have HNe : Hid (∀ er, Fr.dec l = .error er → er ≠ 0) := fun er he => dec_ne14 he
  obtain ⟨r, hr⟩ : ∃ r, r = Fr.dec l := ⟨_, rfl⟩
  rw [← hr] at HD HF HNe
  obtain ⟨z, hz⟩ : ∃ z, z = Rp.isF l := ⟨_, rfl⟩
  rw [← hz] at HF ⊢
  clear hv h hr hz hb0 hW
  go_enter Tryz.func137, Tryz.ntmps137
  go_wp2_with fail
  rw [HW.out]
  refine HD.out.mono ?_
  intro e w1 hdf
  cases r with
  | error er =>
    obtain ⟨rfl, hb1⟩ : e = .returned (.tuple #[.agg #[.int .i64 0, .int .i64 0, .slice none 0 0, .int .i64 0, .int .i64 0, .int .i64 0, .slice none 0 0, .int .i64 0, .int .i64 0, .int .i64 0, .slice none 0 0], .int .i64 (er : Nat)]) ∧ Below W.heap.size W w1 := hdf
    have hne := HNe.out er rfl
    have g0 : ((er : Int) == 0) = false := by rw [beq_eq_false_iff_ne]; omega
    have HZ : Hid (z = false) := HF.out
    have HB1 := Lib.hid (HB.out.trans (hb1.mono HB.out.size))
    clear hne hb1 HD HNe HF
    go_wp2
    go_ret
    exact ⟨by rw [HZ.out]; rfl, HB1.out.alloc HB1.out.size _⟩
  | ok f =>
    obtain ⟨u, rfl, hfo, hb1⟩ : ∃ u, e = .returned (.tuple #[.agg u, .int .i64 0]) ∧ FOwn w1 W.heap.size u f ∧ Below W.heap.size W w1 := hdf
    obtain ⟨sp, sc, bp, bc, ep, ec, hu, -⟩ := hfo.out
    unfold cells11 at hu
    subst hu
    have HZ : Hid (z = true) := HF.out
    have HB1 := Lib.hid (HB.out.trans (hb1.mono HB.out.size))
    clear hfo hb1 HD HNe HF
    go_wp2
    go_ret
    exact ⟨by rw [HZ.out]; rfl, HB1.out.alloc HB1.out.size _⟩

/-- runs that may be read -/
def RunsF (w : World) (p : Option Addr) (rs : List Run) : Prop := ∀ j (hj : j < rs.length), ∃ g, p = some ⟨g, 0, none⟩ ∧ w.cell? ⟨g, j * 2, none⟩ = some (.int .i64 rs[j].1) ∧ ∃ q c, w.cell? ⟨g, j * 2 + 1, none⟩ = some (.slice q rs[j].2.length c) ∧ At w q rs[j].2 ∧ rs[j].2.length ≤ c
theorem RunsO.readF {w : World} {B : Nat} {q : Option Addr} {n c : Nat} {bs : List Nat} {rs : List Run} (h : RunsO w B (.slice q n c) bs rs) : RunsF w q rs := by
  obtain ⟨us, h1, hl, h2⟩ := h.out
  intro j hj
  rcases h1.2 with ⟨_, h3⟩ | ⟨g, cap, cur, he, h4, h5, h6, h7, h8, h9⟩
  · omega
  · injection he with e1 _ _
    subst e1
    obtain ⟨g', cap', e1, e2, e3, hm⟩ := h2 j hj
    have hc : ∀ m v, m < rs.length * 2 → us[m]? = some v → w.cell? ⟨g, m, none⟩ = some v := fun m v hm hv => by
      rw [← h9, List.getElem?_take_of_lt hm] at hv
      simp only [World.cell?, h5]
      simpa using hv
    obtain ⟨p2, c2, hs2, hA2, hc2⟩ := hm.has.at
    injection hs2 with i1 _ i3
    subst i1
    subst i3
    exact ⟨g, rfl, hc _ _ (by omega) e2, some ⟨g', 0, none⟩, cap', hc _ _ (by omega) e3, hA2, hc2⟩
theorem RunsF.on {w w' : World} {p : Option Addr} {rs : List Run} (h : RunsF w p rs) (hb : Below w.heap.size w w') : RunsF w' p rs := fun j hj => by
  obtain ⟨g, h1, h2, q, c, h3, h4, h5⟩ := h j hj
  exact ⟨g, h1, cell_on hb h2, q, c, cell_on hb h3, h4.on hb, h5⟩

set_option maxRecDepth 100000 in
set_option maxHeartbeats 2000000 in
theorem indexFunc15 (p : Option Addr) (c : Nat) (rs : List Run) (hrs : rs.length ≤ 100000000) (hsz : ∀ r ∈ rs, r.2.length ≤ 2200) (w : World) (hv : Hv w) (h : RunsF w p rs) :
    Calls Tryz.prog 177 #[.slice p rs.length c, .func (.func 137) #[] #[]] w fun e w' => ∃ k : Int, e = .returned (.int .i64 k) ∧ (decide (0 ≤ k) = rs.any fun r => Rp.isF r.2) ∧ Below w.heap.size w w' := by
  have HR := Lib.hid h
  have HV := Lib.hid hv
  have HS := Lib.hid hsz
  clear h hv hsz
  go_enter Tryz.func177, Tryz.ntmps177
  go_wp2_with fail
  go_loopw [8] (fun v8 wr => ∃ j : Nat, j ≤ rs.length ∧ v8 = .int .i64 j ∧ Hid (Below w.heap.size w wr ∧ ∀ m (hm : m < rs.length), m < j → Rp.isF rs[m].2 = false)) (fun v8 _ => rs.length - (intOf v8).toNat)
  case atStart => exact ⟨0, Nat.zero_le _, rfl, Below.refl _ _, fun m _ h => by omega⟩
  case round =>
    obtain ⟨j, hj, rfl, HL⟩ := hrel
    by_cases hlt : j < rs.length
    · have g1 : (j : Int) < (rs.length : Int) := by omega
      obtain ⟨g, hp, h1, q, d, h2, h3, h4⟩ := (HR.out.on HL.out.1) j hlt
      subst hp
      have hF := frameFrom1 rs[j].1 q d rs[j].2 (by have := HS.out rs[j] (List.getElem_mem hlt); omega) h4 wr (HV.out.next HL.out.1) h3
      obtain ⟨z, hz⟩ : ∃ z, z = Rp.isF rs[j].2 := ⟨_, rfl⟩
      obtain ⟨n, hn⟩ : ∃ n, n = rs[j].2.length := ⟨_, rfl⟩
      obtain ⟨a, ha⟩ : ∃ a, a = rs[j].1 := ⟨_, rfl⟩
      rw [← hz, ← hn, ← ha] at hF
      rw [← hn] at h2
      rw [← ha] at h1
      have HF := Lib.hid hF
      have HZ := Lib.hid hz
      clear hF hz hn ha h3 h4
      go_wp2_with fail
      refine HF.out.mono ?_
      rintro e w1 ⟨rfl, hb1⟩
      have HB1 := Lib.hid (HL.out.1.trans (hb1.mono HL.out.1.size))
      clear hb1 HF
      cases z with
      | true =>
        go_wp2
        go_ret
        refine ⟨(j : Int), rfl, ?_, HB1.out⟩
        rw [decide_eq_true (by omega)]
        exact (List.any_eq_true.2 ⟨rs[j], List.getElem_mem hlt, HZ.out.symm⟩).symm
      | false =>
        have HL2 : Hid (Below w.heap.size w w1 ∧ ∀ m (hm : m < rs.length), m < j + 1 → Rp.isF rs[m].2 = false) := ⟨HB1.out, fun m hm h => by
          rcases Nat.lt_or_ge m j with h5 | h5
          · exact HL.out.2 m hm h5
          · obtain rfl : m = j := by omega
            exact HZ.out.symm⟩
        clear HL HZ
        go_wp2
        go_roundw
        case rel => exact ⟨j + 1, by omega, by go_num, HL2⟩
        case measure => simp [intOf]; omega
    · have g1 : ¬ (j : Int) < (rs.length : Int) := by omega
      go_wp2
      go_ret
      refine ⟨-1, rfl, ?_, HL.out.1⟩
      rw [decide_eq_false (by omega)]
      symm
      rw [List.any_eq_false]
      intro r hr
      obtain ⟨m, hm, rfl⟩ := List.mem_iff_getElem.1 hr
      rw [HL.out.2 m hm (by omega)]
      simp
theorem containsFunc15 (p : Option Addr) (c : Nat) (rs : List Run) (hrs : rs.length ≤ 100000000) (hsz : ∀ r ∈ rs, r.2.length ≤ 2200) (w : World) (hv : Hv w) (h : RunsF w p rs) :
    Calls Tryz.prog 135 #[.slice p rs.length c, .func (.func 137) #[] #[]] w fun e w' => e = .returned (.bool (rs.any fun r => Rp.isF r.2)) ∧ Below w.heap.size w w' := by
  have HI := Lib.hid (indexFunc15 p c rs hrs hsz w hv h)
  clear hsz hv h
  go_enter Tryz.func135, Tryz.ntmps135
  go_wp2_with fail
  refine HI.out.mono ?_
  rintro e w1 ⟨k, rfl, hk, hb⟩
  have HK := Lib.hid hk
  have HB := Lib.hid hb
  clear hk hb HI
  go_wp2
  go_ret
  exact ⟨by rw [← HK.out]; rfl, HB.out⟩
end Go.Proofs.YtmgcfkpmknogaaaGreatDoor

/- The landed repair: the walk up to a place. -/
namespace Go.Proofs.YtmgcfkpmknogaaaGreatDoor
open Go.RowKit Go.Maps

/-- the answer of walkTo -/
def WalkToA (w : World) (B g : Nat) (v : Value) (s : Dv.St) (x k : Nat) (G : Nat → Prop) (J : Nat) (wk : Wk) (e : Ending) (w' : World) : Prop :=
  ∃ v' g' t, e = .returned (.tuple #[.pointer (some ⟨w.heap.size + 1, 0, none⟩), .int .i64 (Rp.kept s.b J : Nat)]) ∧ KWalk w' w.heap.size (w.heap.size + 1) w.heap.size J v' g' wk G ∧ t ≤ s.told + 1000000000 ∧ KDev w' B g v { s with told := t } x k ∧ Aside (fun i => i = g) w w'

section
variable {w : World} {B g x k : Nat} {v : Value} {s : Dv.St} {G : Nat → Prop}
set_option maxRecDepth 100000 in
set_option maxHeartbeats 4000000 in
theorem kWalkTo (h : KDev w B g v s x k) (hd : s.down = false) (hl : s.b.length ≤ 2097152) (ht : s.told ≤ 1000000000000) (hv : Hv w) (hB : 3 < B) (hBw : B ≤ w.heap.size) (hG : ∀ i, i = g ∨ v.ownBlock = some i → G i) (hGl : ∀ i, G i → i < w.heap.size) {J : Nat} {X : Sc.Pos} (hgo : Sc.goes s.b J = some X) :
    Calls Tryz.prog 102 #[.pointer (some ⟨g, 0, none⟩), .int .i64 (X.at_ : Nat)] w (WalkToA w B g v s x k G J X.wk) := by
  have HN := Lib.hid (kNew14 w G hGl)
  have HH := Lib.hid h
  have HHv := Lib.hid hv
  have HG := Lib.hid hG
  have HGl := Lib.hid hGl
  have hgl := h.lt
  have hbase := h.base
  have HD := Lib.hid hd
  have HGo := Lib.hid hgo
  have hXl := (Sc.goes_good hgo).2.1
  obtain ⟨E, hE⟩ : ∃ E, E = X.at_ := ⟨_, rfl⟩
  rw [← hE] at hXl ⊢
  have HE := Lib.hid hE
  have hEI : (E : Int) ≤ 2097152 := by omega
  clear h hv hG hGl hd hgo hE
  go_enter Tryz.func102, Tryz.ntmps102
  go_wp2_with fail
  refine HN.out.mono ?_
  rintro e w1 ⟨rfl, hk1, hb1, hs1⟩
  have HI1 : Hid (WhI w w1 B g x k v s G 0 Sc.begin_) := ⟨HH.out.below hb1, ⟨_, _, hk1⟩, aside_new hb1 _, rfl⟩
  clear hk1 hb1 hs1 HN HH
  go_wp2_with fail
  go_loopw [7, 8] (fun v7 v8 wr => ∃ j Y, j ≤ J ∧ v7 = .int .i64 (Sc.Pos.at_ Y : Nat) ∧ v8 = .int .i64 (Rp.kept s.b j : Nat) ∧ Hid (WhI w wr B g x k v s G j Y)) (fun v7 _ _ => s.b.length - (intOf v7).toNat)
  case atStart => exact ⟨0, Sc.begin_, Nat.zero_le _, rfl, rfl, HI1⟩
  case round =>
    obtain ⟨j, Y, hjJ, rfl, rfl, HI⟩ := hrel
    obtain ⟨hgd, hat, h8, hrd⟩ := Sc.goes_good HI.out.goes
    obtain ⟨v', g', hwk⟩ := HI.out.walk
    have hkl := Rp.kept_le HI.out.goes
    obtain ⟨K, hK⟩ : ∃ K, K = Rp.kept s.b j := ⟨_, rfl⟩
    obtain ⟨A, hA⟩ : ∃ A, A = Y.at_ := ⟨_, rfl⟩
    rw [← hK, ← hA] at hkl
    rw [← hK, ← hA]
    rw [← hA] at hat h8
    have hKI : (K : Int) ≤ 2097152 := by omega
    have hAI : (A : Int) ≤ 2097152 := by omega
    have HK := Lib.hid hK
    have HA := Lib.hid hA
    clear hK hA hgd
    by_cases hlt : j < J
    · obtain ⟨Z, hZ⟩ := Rp.goes_pre (j := j + 1) HGo.out (by omega)
      have hle := Rp.goes_le HI.out.goes HGo.out (Nat.le_of_lt hlt)
      rw [← HA.out, ← HE.out] at hle
      have g1 : (A : Int) < (E : Int) := by omega
      obtain ⟨Y2, hY2, hstp⟩ := Sc.goes_pred hZ
      rw [HI.out.goes] at hY2
      injection hY2 with hY2
      subst hY2
      obtain ⟨f, hAt, hmay, hwk2, hrd2⟩ := Sc.step_ok hstp
      obtain ⟨a1, a2, a3, hwf, a5, hZl, a7⟩ := Sc.at_ok hAt
      have hks := Rp.kept_succ HI.out.goes hAt
      have hCA := kAt HI.out.dev HD.out hl (by show s.told + Y.read + s.b.length ≤ _; omega) (HHv.out.on (HI.out.aside.below hBw (fun i hi hc => by omega)) hB) hB (Y.at_ : Nat)
      have hCA2 : Calls Tryz.prog 28 #[.pointer (some ⟨g, 0, none⟩), .int .i64 (A : Nat)] wr fun e w' => AtA (.ok (f, Z.at_)) wr e w' ∧ KDev w' B g v { s with told := s.told + Z.read } x k ∧ Aside (fun k => k = g) wr w' := by
        rw [HA.out, ← hAt, hrd2, ← Nat.add_assoc]
        exact hCA
      have HCA := Lib.hid hCA2
      have HWk := Lib.hid hwk
      obtain ⟨C, hC⟩ : ∃ C, C = Z.at_ := ⟨_, rfl⟩
      rw [← hC] at HCA hZl
      have hAC : A < C := by rw [hC, a5, ← HA.out]; simp; omega
      have HC := Lib.hid hC
      have HMay : Hid (Sc.may Y.wk f (A : Nat) = true) := by show _ = _; rw [HA.out]; exact hmay
      have HTk : Hid (Sc.next Y.wk f (A : Nat) = Z.wk) := by
        show _ = _
        rw [hwk2]
        unfold Sc.next
        rw [HMay.out, if_pos rfl, HA.out]
      have HZ := Lib.hid hZ
      have HKs := Lib.hid hks
      have HWf := Lib.hid hwf
      clear hCA hCA2 hwk hmay hwk2 hrd2 hAt a1 a2 a3 a5 a7 hC hstp hZ hks hwf hle
      go_wp2_with fail
      refine HCA.out.mono ?_
      rintro e w2 ⟨hans, hdv, has⟩
      have hw2 : KWalk w2 w.heap.size (w.heap.size + 1) w.heap.size j v' g' Y.wk G := HWk.out.aside (has.mono fun i _ hi => HG.out i (.inl hi)) (fun i hi => .inl hi) (fun i hi => Nat.lt_of_lt_of_le (HWk.out.low i hi) has.size)
      have haw : Aside (fun i => i = g) w w2 := HI.out.aside.trans has (fun _ _ h => h)
      obtain ⟨u, rfl, hfo⟩ : ∃ u, e = .returned (.tuple #[.agg u, .int .i64 (C : Nat), .int .i64 0]) ∧ FOwn w2 wr.heap.size u f := hans
      have hfl := hfo.lies
      obtain ⟨sp, sc, bp, bc, ep, ec, hu, -⟩ := hfo.out
      unfold cells11 at hu
      subst hu
      obtain ⟨b0, hb0⟩ : ∃ x, x = f.kind := ⟨_, rfl⟩
      obtain ⟨b1, hb1⟩ : ∃ x, x = f.number := ⟨_, rfl⟩
      obtain ⟨b2, hbb2⟩ : ∃ x, x = f.cols.length := ⟨_, rfl⟩
      obtain ⟨b3, hb3⟩ : ∃ x, x = f.seq := ⟨_, rfl⟩
      obtain ⟨b4, hb4⟩ : ∃ x, x = f.first := ⟨_, rfl⟩
      obtain ⟨b5, hb5⟩ : ∃ x, x = f.rows := ⟨_, rfl⟩
      obtain ⟨b6, hb6⟩ : ∃ x, x = f.block.length := ⟨_, rfl⟩
      obtain ⟨b7, hb7⟩ : ∃ x, x = f.index.at_ := ⟨_, rfl⟩
      obtain ⟨b8, hb8⟩ : ∃ x, x = f.index.frames := ⟨_, rfl⟩
      obtain ⟨b9, hb9⟩ : ∃ x, x = f.index.rows := ⟨_, rfl⟩
      obtain ⟨b10, hb10⟩ : ∃ x, x = f.index.entries.length := ⟨_, rfl⟩
      rw [← hb0, ← hb1, ← hbb2, ← hb3, ← hb4, ← hb5, ← hb6, ← hb7, ← hb8, ← hb9, ← hb10] at hfl ⊢
      obtain ⟨w3, hw3⟩ : ∃ w3, w3 = w2.alloc (.cells #[.int .i64 b0, .int .i64 b1, .slice sp b2 sc, .int .i64 b3, .int .i64 b4, .int .i64 b5, .slice bp b6 bc, .int .i64 b7, .int .i64 b8, .int .i64 b9, .slice ep b10 ec] 53) := ⟨_, rfl⟩
      have hb23 : Below w2.heap.size w2 w3 := by rw [hw3]; exact (Below.refl _ _).alloc (Nat.le_refl _) _
      have hblk : w3.heap[w2.heap.size]? = some (.cells #[.int .i64 b0, .int .i64 b1, .slice sp b2 sc, .int .i64 b3, .int .i64 b4, .int .i64 b5, .slice bp b6 bc, .int .i64 b7, .int .i64 b8, .int .i64 b9, .slice ep b10 ec] 53) := by rw [hw3]; exact blk_new w2 _
      have HW3 : Hid (w2.alloc (.cells #[.int .i64 b0, .int .i64 b1, .slice sp b2 sc, .int .i64 b3, .int .i64 b4, .int .i64 b5, .slice bp b6 bc, .int .i64 b7, .int .i64 b8, .int .i64 b9, .slice ep b10 ec] 53) = w3) := hw3.symm
      have hk3 := hw2.on hb23
      have hv3 : Hv w3 := HHv.out.on ((haw.below hBw (fun i hi hc => by omega)).trans (hb23.mono (by have := haw.size; omega))) hB
      have HNx := Lib.hid (kNext hk3 f HWf.out _ (hfl.on hb23) (A : Nat) hv3 (by omega) (by have := haw.size; have := hb23.size; omega))
      rw [HMay.out, HTk.out, if_pos rfl] at HNx
      have HK3 := Lib.hid hk3
      have HD3 := Lib.hid (hdv.below hb23)
      have HA3 : Hid (Aside (fun i => i = g) w w3) := haw.trans (aside_new hb23 (fun i => i = g)) (fun _ _ h => h)
      have HBk := Lib.hid hblk
      have HOut : Hid (∀ i, wOwn (w.heap.size + 1) w.heap.size v' i → i < w2.heap.size) := fun i hi => by
        rcases hi with hi | hi | hi
        · rw [hi]; exact hw2.lt
        · rw [hi]; exact hw2.map.lt
        · exact (hw2.ents.lt i hi).2
      have HB0 := Lib.hid hb0
      have hCI : (C : Int) ≤ 2097152 := by omega
      clear hfo hfl hw2 hdv haw has hk3 hv3 hb23 hw3 hblk HMay HTk HCA HWk hb0 hb1 hbb2 hb3 hb4 hb5 hb6 hb7 hb8 hb9 hb10
      go_wp2_with fail
      rw [HW3.out]
      refine HNx.out.mono ?_
      rintro e w4 ⟨rfl, v4, g4, hk4, ha4, hv4⟩
      obtain ⟨hd4, haw4⟩ := WhI.after HD3.out HK3.out HA3.out ha4 HG.out hgl
      have hblk4 := (ha4.block _ (blk_lt HBk.out) (fun hc => absurd (HOut.out _ hc) (Nat.lt_irrefl _))).trans HBk.out
      have c0 : w4.cell? ⟨w2.heap.size, 0, none⟩ = some (.int .i64 b0) := blk_cell hblk4 0
      have HI2 : Hid (WhI w w4 B g x k v s G (j + 1) Z) := ⟨hd4, ⟨_, _, hk4⟩, haw4, HZ.out⟩
      clear hk4 ha4 hv4 hd4 haw4 HNx HK3 HD3 HA3 HW3 HBk HOut hblk4
      by_cases hk1 : b0 = 1
      · have g2 : (b0 != 1) = false := by rw [hk1]; rfl
        go_wp2
        go_roundw
        case rel => exact ⟨j + 1, Z, hlt, by rw [← HC.out], by rw [HKs.out, if_pos (by rw [← HB0.out]; exact hk1), HK.out], HI2⟩
        case measure => simp [intOf]; omega
      · have g2 : (b0 != 1) = true := by rw [bne_iff_ne]; exact hk1
        go_wp2
        go_roundw
        case rel => exact ⟨j + 1, Z, hlt, by rw [← HC.out], by rw [HKs.out, if_neg (by rw [← HB0.out]; exact hk1), HC.out], HI2⟩
        case measure => simp [intOf]; omega
    · obtain rfl : j = J := by omega
      have hXY := HI.out.goes
      rw [HGo.out] at hXY
      injection hXY with hXY
      subst hXY
      have g1 : ¬ (A : Int) < (E : Int) := by have := HA.out; have := HE.out; omega
      have HW := Lib.hid hwk
      clear hwk
      go_wp2
      go_ret2
      exact ⟨v', g', s.told + X.read, by rw [← HK.out]; rfl, HW.out, by omega, HI.out.dev, HI.out.aside⟩
end
end Go.Proofs.YtmgcfkpmknogaaaGreatDoor

/- The landed repair: look. -/
namespace Go.Proofs.YtmgcfkpmknogaaaGreatDoor
open Go.RowKit Go.Maps

section
variable {w : World} {B g x k : Nat} {v : Value} {s : Dv.St}
theorem read_rest (s : Dv.St) (p : Nat) (hp : p ≤ s.b.length) : Dv.read s (p : Nat) ((s.b.length : Int) - (p : Int)) = (s.b.drop p, 0, { s with told := s.told + (s.b.length - p) }) := by
  unfold Dv.read
  rw [if_neg (by omega)]
  have e : (s.b.drop ((p : Nat) : Int).toNat).take ((s.b.length : Int) - (p : Int)).toNat = s.b.drop p := by
    rw [Int.toNat_natCast, List.take_of_length_le (by rw [List.length_drop]; omega)]
  simp only [e, List.length_drop]

set_option maxRecDepth 100000 in
set_option maxHeartbeats 2000000 in
theorem kFrameFrom (h : KDev w B g v s x k) (hl : s.b.length ≤ 2097152) (ht : s.told ≤ 1000000000000) (hv : Hv w) (hB : 3 < B) (p : Nat) (hp : p ≤ s.b.length) :
    Calls Tryz.prog 101 #[.pointer (some ⟨g, 0, none⟩), .int .i64 (p : Nat)] w fun e w' => e = .returned (.bool (Rp.bad s.b p)) ∧ KDev w' B g v { s with told := s.told + (s.b.length - p) } x k ∧ Aside (fun i => i = g) w w' := by
  have HLn := Lib.hid (kLen h)
  have hR := kRead h (p : Nat) ((s.b.length : Int) - (p : Int)) (by omega) (by omega) (by omega) hl (by omega)
  rw [read_rest s p hp] at hR
  have hsz : (s.b.drop p).length ≤ s.b.length := by rw [List.length_drop]; omega
  obtain ⟨l, hl2⟩ : ∃ l, l = s.b.drop p := ⟨_, rfl⟩
  have HZ : Hid (Rp.bad s.b p = (Sp.of l).out.any fun r => Rp.isF r.2) := by show _ = _; rw [hl2]; rfl
  rw [← hl2] at hR hsz
  have HR := Lib.hid hR
  obtain ⟨z, hz⟩ : ∃ z, z = Rp.bad s.b p := ⟨_, rfl⟩
  rw [← hz] at HZ ⊢
  have HHv := Lib.hid hv
  have hlt := h.lt
  have hbs := h.base
  clear h hv hR hl2 hz
  go_enter Tryz.func101, Tryz.ntmps101
  go_wp2_with fail
  refine HLn.out.mono ?_
  rintro e w' ⟨rfl, hw'⟩
  rw [hw']
  clear hw' w' HLn
  go_wp2_with fail
  refine HR.out.mono ?_
  rintro e w1 ⟨q, cap, rfl, hh, hd1, ha1⟩
  have hv1 : Hv w1 := HHv.out.on (ha1.below (B := B) (by omega) (fun i hi hc => by omega)) hB
  obtain ⟨q2, c2, he2, hA2, hc2⟩ := hh.at
  injection he2 with e1 _ e3
  subst e1
  subst e3
  have HRn := Lib.hid (runsK w1 q cap l hA2 (by omega))
  have HD := Lib.hid hd1
  have HA := Lib.hid ha1
  have HV1 := Lib.hid hv1
  clear hh hd1 ha1 hv1 hA2 hc2 HR
  go_wp2_with fail
  refine HRn.out.mono ?_
  rintro e w2 ⟨qr, cr, bs, rfl, hro, hb2⟩
  have hol := Sp.out_len l
  have HC := Lib.hid (containsFunc15 qr cr (Sp.of l).out (by omega) (Rp.of_small l) w2 (HV1.out.next hb2) hro.readF)
  have HB2 := Lib.hid hb2
  rw [← HZ.out] at HC
  clear hro hb2 HRn hol
  go_wp2_with fail
  refine HC.out.mono ?_
  rintro e w3 ⟨rfl, hb3⟩
  have hB3 := HB2.out.trans (hb3.mono HB2.out.size)
  have HD3 := Lib.hid (HD.out.below hB3)
  have HA3 : Hid (Aside (fun i => i = g) w w3) := HA.out.trans (aside_new hB3 (fun i => i = g)) (fun _ _ h => h)
  clear hb3 hB3 HC
  go_wp2
  go_ret
  exact ⟨rfl, HD3.out, HA3.out⟩

theorem He.aside {F : Nat → Prop} {w w' : World} (h : He w) (ha : Aside F w w') (hF : ¬ F 0) : He w' := by
  unfold He at *
  have hlt : 0 < w.heap.size := by
    rcases Nat.lt_or_ge 0 w.heap.size with h1 | h1
    · exact h1
    · simp [World.cell?, Array.getElem?_eq_none h1] at h
  unfold World.cell? at *
  rw [ha.block _ hlt hF]
  exact h

/-- the answer of look: fl is what stands for the error -/
def LookA (b : List UInt8) (G : Nat → Prop) (fl : Nat → Value) (nl : Value) (w : World) (r : Except Nat Nat) (e : Ending) (w' : World) : Prop := match r with
  | .error c => e = .returned (.tuple #[.int .i64 0, .pointer none, fl c])
  | .ok K => ∃ a M B' n v' g' m y, e = .returned (.tuple #[.int .i64 (K : Nat), .pointer (some ⟨a, 0, none⟩), nl]) ∧ KWalk w' B' a M n v' g' (Sc.Pos.wk y) G ∧ w.heap.size ≤ B' ∧ Sc.goes b m = some y ∧ y.at_ = K
def faultV (c : Nat) : Value := .iface 151 (.agg #[.int .i64 (c : Nat)])

set_option maxRecDepth 100000 in
set_option maxHeartbeats 4000000 in
theorem kLook0 (h : KDev w B g v s x k) (hd : s.down = false) (hl : s.b.length ≤ 2097152) (ht : s.told ≤ 100000000000) (hv : Hv w) (hB : 3 < B) {j er : Nat} {X : Sc.Pos} (hgo : Sc.goes s.b j = some X) (hst : Sc.step s.b X = .error er) :
    Calls Tryz.prog 53 #[.pointer (some ⟨g, 0, none⟩)] w fun e w' => LookA s.b (fun i => i = g ∨ v.ownBlock = some i) faultV .nilIface w (Rp.look s.b j X.at_ er) e w' ∧ ∃ t, t ≤ s.told + 4000000000 ∧ KDev w' B g v { s with told := t } x k ∧ Aside (fun i => i = g) w w' := by
  have hlt := h.lt
  have hbs := h.base
  have hGl : ∀ i, (i = g ∨ v.ownBlock = some i) → i < w.heap.size := fun i hi => by
    rcases hi with hi | hi
    · rw [hi]; exact hlt
    · exact (h.has.lt i hi).2
  have hW := kWhole (G := fun i => i = g ∨ v.ownBlock = some i) h hd hl (by omega) hv hB (by omega) (fun i hi => hi) hGl
  have hW2 : Calls Tryz.prog 27 #[.pointer (some ⟨g, 0, none⟩)] w fun e w' => e = .returned (.tuple #[.pointer (some ⟨w.heap.size + 1, 0, none⟩), .int .i64 (X.at_ : Nat), .int .i64 (er : Nat)]) ∧ KDev w' B g v { s with told := s.told + X.read + Sc.reads s.b X.at_ } x k ∧ Aside (fun i => i = g) w w' := by
    refine hW.mono ?_
    rintro e w' ⟨j2, X2, er2, v', g', h1, h2, h3, -, h5, h6⟩
    obtain ⟨-, rfl, rfl⟩ := Sc.goes_uniq hgo hst h1 h2
    exact ⟨h3, h5, h6⟩
  have HW := Lib.hid hW2
  obtain ⟨hgd, hat, h8, hrd⟩ := Sc.goes_good hgo
  have hrl := Sc.reads_le s.b X.at_
  have hne := Rp.step_ne50 hst
  have g50 : ((er : Int) == 50) = false := by rw [beq_eq_false_iff_ne]; omega
  obtain ⟨m, y, hmj, hgm, hym, hkm⟩ := Rp.kept_goes hgo
  have hyl := (Sc.goes_good hgm).2.1
  have HGm := Lib.hid hgm
  have HYm := Lib.hid hym
  have HGo := Lib.hid hgo
  have HHv := Lib.hid hv
  have HD := Lib.hid hd
  have HGl := Lib.hid hGl
  obtain ⟨t1, ht1⟩ : ∃ t1, t1 = s.told + X.read + Sc.reads s.b X.at_ := ⟨_, rfl⟩
  have ht1' : t1 ≤ s.told + 1000000000 := by omega
  rw [← ht1] at HW
  have HLk : Hid (Rp.look s.b j X.at_ er = if er ≠ 140 ∧ Rp.bad s.b X.at_ = true then .error 150 else .ok (Rp.kept s.b j)) := rfl
  have HFF : Hid (∀ w1, KDev w1 B g v { s with told := t1 } x k → Aside (fun i => i = g) w w1 → Calls Tryz.prog 101 #[.pointer (some ⟨g, 0, none⟩), .int .i64 (X.at_ : Nat)] w1 fun e w' => e = .returned (.bool (Rp.bad s.b X.at_)) ∧ KDev w' B g v { s with told := t1 + (s.b.length - X.at_) } x k ∧ Aside (fun i => i = g) w1 w') := fun w1 hk1 ha1 => kFrameFrom hk1 hl (by show t1 ≤ _; omega) (HHv.out.on (ha1.below (B := B) (by omega) (fun i hi hc => by omega)) hB) hB X.at_ hat
  have HWT : Hid (∀ w1 t J Z, t ≤ s.told + 3000000000 → KDev w1 B g v { s with told := t } x k → Aside (fun i => i = g) w w1 → Sc.goes s.b J = some Z → Calls Tryz.prog 102 #[.pointer (some ⟨g, 0, none⟩), .int .i64 (Sc.Pos.at_ Z : Nat)] w1 fun e w' => ∃ v' g' t', e = .returned (.tuple #[.pointer (some ⟨w1.heap.size + 1, 0, none⟩), .int .i64 (Rp.kept s.b J : Nat)]) ∧ KWalk w' w1.heap.size (w1.heap.size + 1) w1.heap.size J v' g' Z.wk (fun i => i = g ∨ v.ownBlock = some i) ∧ t' ≤ t + 1000000000 ∧ KDev w' B g v { s with told := t' } x k ∧ Aside (fun i => i = g) w w') := fun w1 t J Z htt hk1 ha1 hgz =>
    (kWalkTo (G := fun i => i = g ∨ v.ownBlock = some i) hk1 HD.out hl (by show t ≤ _; omega) (HHv.out.on (ha1.below (B := B) (by omega) (fun i hi hc => by omega)) hB) hB (by have := ha1.size; omega) (fun i hi => hi) (fun i hi => Nat.lt_of_lt_of_le (HGl.out i hi) ha1.size) hgz).mono (fun e w' ⟨v', g', t', h1, h2, h3, h4, h5⟩ => ⟨v', g', t', h1, h2, h3, h4, ha1.trans h5 (fun _ _ h => h)⟩)
  obtain ⟨E, hE⟩ : ∃ E, E = X.at_ := ⟨_, rfl⟩
  rw [← hE] at HW HLk HFF hat ⊢
  have HE := Lib.hid hE
  have hEI : (E : Int) ≤ 2097152 := by omega
  obtain ⟨K, hK⟩ : ∃ K, K = Rp.kept s.b j := ⟨_, rfl⟩
  rw [← hK] at HLk
  have HK := Lib.hid hK
  have hKl : K ≤ 2097152 := by rw [hK, ← hym]; omega
  have hKI : (K : Int) ≤ 2097152 := by omega
  clear h hd hv hgo hst hW hW2 hGl hgd h8 hrd hrl hne hgm hym hkm hmj hE hK hyl ht1
  go_enter Tryz.func53, Tryz.ntmps53
  go_wp2_with fail
  refine HW.out.mono ?_
  rintro e w1 ⟨rfl, hk1, ha1⟩
  have HK1 := Lib.hid hk1
  have HA1 := Lib.hid ha1
  clear hk1 ha1 HW
  by_cases h140 : er = 140
  case' pos =>
    have g140 : ((er : Int) != 140) = false := by rw [bne_eq_false_iff_eq]; omega
    have HL : Hid (Rp.look s.b j E er = .ok K) := by show _ = _; rw [HLk.out, if_neg (fun hc => hc.1 h140)]
    obtain ⟨wx, hwx⟩ : ∃ wx, wx = w1 := ⟨_, rfl⟩
    obtain ⟨tx, htx⟩ : ∃ tx, tx = t1 := ⟨_, rfl⟩
    have htx' : tx ≤ s.told + 2000000000 := by omega
    have HKx : Hid (KDev wx B g v { s with told := tx } x k) := by rw [hwx, htx]; exact HK1.out
    have HAx : Hid (Aside (fun i => i = g) w wx) := by rw [hwx]; exact HA1.out
    have HWx := Lib.hid hwx.symm
    clear hwx htx HFF HK1 HA1 HLk h140
    go_wp2_with fail
  case' neg =>
    have g140 : ((er : Int) != 140) = true := by rw [bne_iff_ne]; omega
    have HF := Lib.hid (HFF.out w1 HK1.out HA1.out)
    obtain ⟨z, hz⟩ : ∃ z, z = Rp.bad s.b E := ⟨_, rfl⟩
    rw [← hz] at HF HLk
    clear HFF hz
    go_wp2_with fail
    refine HF.out.mono ?_
    rintro e wx ⟨rfl, hkx, hax⟩
    have HAx : Hid (Aside (fun i => i = g) w wx) := HA1.out.trans hax (fun _ _ h => h)
    obtain ⟨tx, htx⟩ : ∃ tx, tx = t1 + (s.b.length - E) := ⟨_, rfl⟩
    rw [← htx] at hkx
    have htx' : tx ≤ s.told + 2000000000 := by omega
    have HKx := Lib.hid hkx
    clear hkx hax htx HF HK1 HA1
    rcases z with _ | _
    case' true =>
      have HL : Hid (Rp.look s.b j E er = .error 150) := by show _ = _; rw [HLk.out, if_pos ⟨h140, rfl⟩]
      clear HLk h140
      go_wp2
      go_ret3
      rw [HL.out]
      exact ⟨rfl, tx, by omega, HKx.out, HAx.out⟩
    case' false =>
      have HL : Hid (Rp.look s.b j E er = .ok K) := by show _ = _; rw [HLk.out, if_neg (fun hc => by cases hc.2)]
      clear HLk h140
      go_wp2_with fail
  all_goals
    (first | rw [HWx.out] | skip)
    have hT := HWT.out wx tx j X (by omega) HKx.out HAx.out HGo.out
    rw [← HE.out, ← HK.out] at hT
    have HT := Lib.hid hT
    clear hT HKx
    refine HT.out.mono ?_
    rintro e w3 ⟨v3, g3, t3, rfl, -, ht3, hk3, ha3⟩
    have hT2 := HWT.out w3 t3 m y (by omega) hk3 ha3 HGm.out
    rw [HYm.out, ← HK.out] at hT2
    have HT2 := Lib.hid hT2
    have HA3 := Lib.hid ha3
    clear hT2 hk3 ha3 HT HWT
    go_wp2_with fail
    refine HT2.out.mono ?_
    rintro e w4 ⟨v4, g4, t4, rfl, hw4, ht4, hk4, ha4⟩
    have HW4 := Lib.hid hw4
    have HK4 := Lib.hid hk4
    have HA4 := Lib.hid ha4
    clear hw4 hk4 ha4 HT2
    go_wp2
    go_ret3
    rw [HL.out]
    exact ⟨⟨_, _, _, _, _, _, m, y, rfl, HW4.out, HA3.out.size, HGm.out, by rw [HYm.out, HK.out]⟩, t4, by omega, HK4.out, HA4.out⟩
end
end Go.Proofs.YtmgcfkpmknogaaaGreatDoor

/- The landed repair: Look, cutBack, Do. -/
namespace Go.Proofs.YtmgcfkpmknogaaaGreatDoor
open Go.RowKit Go.Maps

theorem do_whole {s : Dv.St} {K : Nat} (h : s.b.length = K) : Rp.do_ s (.ok K) = (0, 0, s) := by
  show (if _ then _ else _) = _
  rw [if_pos h]
theorem do_cut {s : Dv.St} {K : Nat} (h : ¬ s.b.length = K) : Rp.do_ s (.ok K) = if (Dv.cut s K).1 = 0 then (s.b.length - K, 0, (Dv.cut s K).2) else (0, (Dv.cut s K).1, (Dv.cut s K).2) := by
  show (if s.b.length = K then _ else _) = _
  rw [if_neg h]
theorem cut_told (s : Dv.St) (t : Nat) (n : Int) : (Dv.cut { s with told := t } n).1 = (Dv.cut s n).1 := by
  unfold Dv.cut
  have hm : Dv.may { s with told := t } = Dv.may s := rfl
  simp only [hm]
  split
  · rfl
  · split
    · rfl
    · split <;> rfl
section
variable {w : World} {B g x k : Nat} {v : Value} {s : Dv.St}
set_option maxRecDepth 100000 in
set_option maxHeartbeats 2000000 in
theorem kLook (h : KDev w B g v s x k) (hd : s.down = false) (hl : s.b.length ≤ 2097152) (ht : s.told ≤ 100000000000) (hv : Hv w) (he : He w) (hB : 3 < B) {j er : Nat} {X : Sc.Pos} (hgo : Sc.goes s.b j = some X) (hst : Sc.step s.b X = .error er) :
    Calls Tryz.prog 14 #[.pointer (some ⟨g, 0, none⟩)] w fun e w' => LookA s.b (fun i => i = g ∨ v.ownBlock = some i) (fun c => .int .i64 (c : Nat)) (.int .i64 0) w (Rp.look s.b j X.at_ er) e w' ∧ ∃ t, t ≤ s.told + 4000000000 ∧ KDev w' B g v { s with told := t } x k ∧ Aside (fun i => i = g) w w' := by
  have HL := Lib.hid (kLook0 h hd hl ht hv hB hgo hst)
  have HHe := Lib.hid he
  have hbs := h.base
  obtain ⟨r, hr⟩ : ∃ r, r = Rp.look s.b j X.at_ er := ⟨_, rfl⟩
  rw [← hr] at HL ⊢
  clear h hd hv he hgo hst hr
  go_enter Tryz.func14, Tryz.ntmps14
  go_wp2_with fail
  refine HL.out.mono ?_
  rintro e w1 ⟨hans, t, ht1, hk1, ha1⟩
  have hE1 : He w1 := HHe.out.aside ha1 (fun hc => by omega)
  have HK1 := Lib.hid hk1
  have HA1 := Lib.hid ha1
  clear hk1 ha1 HL
  cases r with
  | error c =>
    replace hans : e = .returned (.tuple #[.int .i64 0, .pointer none, .iface 151 (.agg #[.int .i64 (c : Nat)])]) := hans
    subst hans
    have HE := Lib.hid (errno_hit (c : Nat) w1 hE1)
    clear hE1
    go_wp2_with fail
    refine HE.out.mono ?_
    rintro e w2 ⟨rfl, hb2⟩
    have HK2 := Lib.hid (HK1.out.below hb2)
    have HA2 : Hid (Aside (fun i => i = g) w w2) := HA1.out.trans (aside_new hb2 (fun i => i = g)) (fun _ _ h => h)
    clear hb2 HE
    go_wp2
    go_ret3
    exact ⟨rfl, t, ht1, HK2.out, HA2.out⟩
  | ok K =>
    obtain ⟨a, M, B', n, v', g', m, y, rfl, hw1, hB1, hgm, hym⟩ := hans
    have HE := Lib.hid (errno_nil w1)
    have HW1 := Lib.hid hw1
    have HX : Hid (w.heap.size ≤ B' ∧ Sc.goes s.b m = some y ∧ y.at_ = K) := ⟨hB1, hgm, hym⟩
    clear hE1 hw1 hB1 hgm hym
    go_wp2_with fail
    refine HE.out.mono ?_
    rintro e w2 ⟨rfl, hb2⟩
    have HK2 := Lib.hid (HK1.out.below hb2)
    have HA2 : Hid (Aside (fun i => i = g) w w2) := HA1.out.trans (aside_new hb2 (fun i => i = g)) (fun _ _ h => h)
    have HW2 := Lib.hid (HW1.out.on hb2)
    clear hb2 HE
    go_wp2
    go_ret3
    exact ⟨⟨_, _, _, _, _, _, m, y, rfl, HW2.out, HX.out.1, HX.out.2.1, HX.out.2.2⟩, t, ht1, HK2.out, HA2.out⟩

/-- what stands for an error, or none -/
def errI (c : Nat) : Value := if c = 0 then .nilIface else faultV c
theorem errno_any (c : Nat) (w : World) (he : He w) : Calls Tryz.prog 54 #[errI c] w fun e w' => e = .returned (.int .i64 (c : Nat)) ∧ Below w.heap.size w w' := by
  unfold errI
  by_cases hc : c = 0
  · rw [if_pos hc, hc]
    exact errno_nil w
  · rw [if_neg hc]
    exact errno_hit (c : Nat) w he
/-- what Do leaves -/
def DoPost (w : World) (B g : Nat) (v : Value) (s : Dv.St) (r : Except Nat Nat) (w' : World) : Prop :=
  ∃ t v' x' k', t ≤ s.told + 4000000000 ∧ KDev w' B g v' (Rp.do_ { s with told := t } r).2.2 x' k' ∧ Aside (fun i => i = g ∨ v.ownBlock = some i) w w' ∧ ∀ i, v'.ownBlock = some i → v.ownBlock = some i ∨ w.heap.size ≤ i

set_option maxRecDepth 100000 in
set_option maxHeartbeats 2000000 in
theorem kCutBack (h : KDev w B g v s x k) (hd : s.down = false) (hl : s.b.length ≤ 2097152) (hs : s.safe ≤ s.b.length) (hdn : s.done < 4611686018427387904) (ht : s.told ≤ 100000000000) (hv : Hv w) (hB : 3 < B) {j er : Nat} {X : Sc.Pos} (hgo : Sc.goes s.b j = some X) (hst : Sc.step s.b X = .error er) :
    Calls Tryz.prog 69 #[.pointer (some ⟨g, 0, none⟩)] w fun e w' => e = .returned (.tuple #[.int .i64 ((Rp.do_ s (Rp.look s.b j X.at_ er)).1 : Nat), errI (Rp.do_ s (Rp.look s.b j X.at_ er)).2.1]) ∧ DoPost w B g v s (Rp.look s.b j X.at_ er) w' := by
  have HL := Lib.hid (kLook0 h hd hl ht hv hB hgo hst)
  have hlk : ∀ c, Rp.look s.b j X.at_ er = .error c → c ≠ 0 := fun c hc => by
    unfold Rp.look at hc
    split at hc
    · cases hc; decide
    · cases hc
  obtain ⟨r, hr⟩ : ∃ r, r = Rp.look s.b j X.at_ er := ⟨_, rfl⟩
  rw [← hr] at HL hlk ⊢
  have HLk := Lib.hid hlk
  clear h hd hv hgo hst hr hlk
  go_enter Tryz.func69, Tryz.ntmps69
  go_wp2_with fail
  refine HL.out.mono ?_
  rintro e w1 ⟨hans, t, ht1, hk1, ha1⟩
  have HK1 := Lib.hid hk1
  have HA1 : Hid (Aside (fun i => i = g ∨ v.ownBlock = some i) w w1) := ha1.mono fun i _ hi => .inl hi
  clear hk1 ha1 HL
  cases r with
  | error c =>
    replace hans : e = .returned (.tuple #[.int .i64 0, .pointer none, .iface 151 (.agg #[.int .i64 (c : Nat)])]) := hans
    subst hans
    have hne := HLk.out c rfl
    go_wp2
    go_ret2
    refine ⟨?_, t, v, x, k, ht1, HK1.out, HA1.out, fun i hi => .inl hi⟩
    show _ = Ending.returned (.tuple #[.int .i64 ((0 : Nat) : Int), errI c])
    unfold errI
    rw [if_neg hne]
    rfl
  | ok K =>
    obtain ⟨a, M, B', n, v', g', m, y, rfl, -, -, hgm, hym⟩ := hans
    have hKl : K ≤ s.b.length := by rw [← hym]; exact (Sc.goes_good hgm).2.1
    have HLn := Lib.hid (kLen HK1.out)
    have HC := Lib.hid (kCut HK1.out (K : Nat) hs hl hdn)
    have hsub : ((s.b.length - K : Nat) : Int) = (s.b.length : Int) - (K : Int) := by omega
    have HSub := Lib.hid hsub
    obtain ⟨L, hL⟩ : ∃ L, L = s.b.length := ⟨_, rfl⟩
    have hLn2 : Calls Tryz.prog 49 #[.pointer (some ⟨g, 0, none⟩)] w1 fun e w' => e = .returned (.int .i64 (L : Nat)) ∧ w' = w1 := by rw [hL]; exact HLn.out
    have HLn2 := Lib.hid hLn2
    rw [← hL] at hKl hl
    have HLL := Lib.hid hL
    clear hgm hym hsub hLn2 HLn hL hs
    go_wp2_with fail
    refine HLn2.out.mono ?_
    rintro e w' ⟨rfl, hw'⟩
    rw [hw']
    clear hw' w' HLn2
    by_cases hLK : L = K
    · have g0 : ((L : Int) - (K : Int) == 0) = true := by rw [beq_iff_eq]; omega
      have e0 : ∀ s' : Dv.St, s'.b = s.b → Rp.do_ s' (.ok K) = (0, 0, s') := fun s' hs' => do_whole (by rw [hs', ← HLL.out]; exact hLK)
      have HE0 := Lib.hid e0
      clear e0
      go_wp2
      go_ret2
      refine ⟨?_, t, v, x, k, ht1, ?_, HA1.out, fun i hi => .inl hi⟩
      · rw [HE0.out s rfl]
        rfl
      · rw [HE0.out { s with told := t } rfl]
        exact HK1.out
    · have g0 : ((L : Int) - (K : Int) == 0) = false := by rw [beq_eq_false_iff_ne]; omega
      have e1 : ∀ s' : Dv.St, s'.b = s.b → Rp.do_ s' (.ok K) = if (Dv.cut s' K).1 = 0 then (s'.b.length - K, 0, (Dv.cut s' K).2) else (0, (Dv.cut s' K).1, (Dv.cut s' K).2) := fun s' hs' => do_cut (by rw [hs', ← HLL.out]; exact hLK)
      have e2 : (Dv.cut { s with told := t } (K : Nat)).1 = (Dv.cut s (K : Nat)).1 := cut_told s t K
      have HE1 := Lib.hid e1
      have HE2 := Lib.hid e2
      clear e1 e2
      go_wp2_with fail
      refine HC.out.mono ?_
      rintro e w2 ⟨rfl, v2, x2, k2, hk2, ha2, hv2⟩
      have HK2 := Lib.hid hk2
      have HA2 : Hid (Aside (fun i => i = g ∨ v.ownBlock = some i) w w2) := HA1.out.trans ha2 (fun _ _ h => h)
      have HV2 : Hid (∀ i, v2.ownBlock = some i → v.ownBlock = some i ∨ w.heap.size ≤ i) := fun i hi => (hv2 i hi).imp id (fun h => Nat.le_trans HA1.out.size h)
      obtain ⟨cd, hcd⟩ : ∃ cd, cd = (Dv.cut { s with told := t } (K : Nat)).1 := ⟨_, rfl⟩
      rw [← hcd]
      have HCd := Lib.hid hcd
      clear hk2 ha2 hv2 HC hcd
      by_cases hc0 : cd = 0
      · have g1 : ((cd : Int) != 0) = false := by rw [bne_eq_false_iff_eq]; omega
        go_wp2
        go_ret2
        refine ⟨?_, t, v2, x2, k2, ht1, ?_, HA2.out, HV2.out⟩
        · rw [HE1.out s rfl, if_pos (by rw [← HE2.out, ← HCd.out]; exact hc0)]
          show _ = Ending.returned (.tuple #[.int .i64 ((s.b.length - K : Nat) : Int), .nilIface])
          rw [HSub.out, ← HLL.out]
          rfl
        · rw [HE1.out { s with told := t } rfl, if_pos (by rw [← HCd.out]; exact hc0)]
          exact HK2.out
      · have g1 : ((cd : Int) != 0) = true := by rw [bne_iff_ne]; omega
        go_wp2
        go_ret2
        refine ⟨?_, t, v2, x2, k2, ht1, ?_, HA2.out, HV2.out⟩
        · rw [HE1.out s rfl, if_neg (by rw [← HE2.out, ← HCd.out]; exact hc0), ← HE2.out, ← HCd.out]
          show _ = Ending.returned (.tuple #[.int .i64 ((0 : Nat) : Int), errI cd])
          unfold errI
          rw [if_neg hc0]
          rfl
        · rw [HE1.out { s with told := t } rfl, if_neg (by rw [← HCd.out]; exact hc0)]
          exact HK2.out

set_option maxRecDepth 100000 in
set_option maxHeartbeats 2000000 in
theorem kDo (h : KDev w B g v s x k) (hd : s.down = false) (hl : s.b.length ≤ 2097152) (hs : s.safe ≤ s.b.length) (hdn : s.done < 4611686018427387904) (ht : s.told ≤ 100000000000) (hv : Hv w) (he : He w) (hB : 3 < B) {j er : Nat} {X : Sc.Pos} (hgo : Sc.goes s.b j = some X) (hst : Sc.step s.b X = .error er) :
    Calls Tryz.prog 20 #[.pointer (some ⟨g, 0, none⟩)] w fun e w' => e = .returned (.tuple #[.int .i64 ((Rp.do_ s (Rp.look s.b j X.at_ er)).1 : Nat), .int .i64 ((Rp.do_ s (Rp.look s.b j X.at_ er)).2.1 : Nat)]) ∧ DoPost w B g v s (Rp.look s.b j X.at_ er) w' := by
  have HC := Lib.hid (kCutBack h hd hl hs hdn ht hv hB hgo hst)
  have HHe := Lib.hid he
  have hbs := h.base
  have HLow : Hid (∀ i, v.ownBlock = some i → B ≤ i) := fun i hi => (h.has.lt i hi).1
  obtain ⟨r, hr⟩ : ∃ r, r = Rp.look s.b j X.at_ er := ⟨_, rfl⟩
  rw [← hr] at HC ⊢
  obtain ⟨n, hn⟩ : ∃ n, n = (Rp.do_ s r).1 := ⟨_, rfl⟩
  obtain ⟨c, hc⟩ : ∃ c, c = (Rp.do_ s r).2.1 := ⟨_, rfl⟩
  rw [← hn, ← hc] at HC ⊢
  clear h hd hv he hgo hst hr hn hc hs
  go_enter Tryz.func20, Tryz.ntmps20
  go_wp2_with fail
  refine HC.out.mono ?_
  rintro e w1 ⟨rfl, t, v', x', k', ht1, hk1, ha1, hv1⟩
  have HE := Lib.hid (errno_any c w1 (HHe.out.aside ha1 (fun hc => by
    rcases hc with hc | hc
    · omega
    · have := HLow.out _ hc; omega)))
  obtain ⟨fl, hfl⟩ : ∃ fl, fl = errI c := ⟨_, rfl⟩
  rw [← hfl] at HE ⊢
  have HP : Hid (∃ t v' x' k', t ≤ s.told + 4000000000 ∧ KDev w1 B g v' (Rp.do_ { s with told := t } r).2.2 x' k' ∧ Aside (fun i => i = g ∨ v.ownBlock = some i) w w1 ∧ ∀ i, v'.ownBlock = some i → v.ownBlock = some i ∨ w.heap.size ≤ i) := ⟨t, v', x', k', ht1, hk1, ha1, hv1⟩
  clear hk1 ha1 hv1 hfl HC
  go_wp2_with fail
  refine HE.out.mono ?_
  rintro e w2 ⟨rfl, hb2⟩
  have HB2 := Lib.hid hb2
  clear hb2 HE
  go_wp2
  go_ret2
  obtain ⟨t, v', x', k', q1, q2, q3, q4⟩ := HP.out
  exact ⟨rfl, t, v', x', k', q1, q2.below HB2.out, q3.trans (aside_new HB2.out _) (fun _ _ h => h), q4⟩
end
end Go.Proofs.YtmgcfkpmknogaaaGreatDoor
