import Derived.Test.YtfcblnknoljkhaaGreatDoorWR12B
import Derived.Test.YtfcblnknoljkhaaGreatDoorA2
set_option maxRecDepth 100000
set_option maxHeartbeats 8000000
namespace Go.Proofs.YtfcblnknoljkhaaGreatDoor
open Go.RowKit
theorem refBody_3 (f:Fr) (hk:f.kind = 3) (hw:f.wf) (he:Fr.err0 f = 0) (u:Array Value) (w:World) (hx:FLies w u f) :
    Calls Tryz.prog 11 #[.agg u] w (BodyV w (Fr.check (Fr.head f))):=by
  obtain ⟨sp,sc,bp,bc,ep,ec,rfl,h1,h2,h3,h4,h5,h6,h7,h8,h9⟩:=hx.out
  unfold cells11
  obtain ⟨w0,hw0⟩:∃ w0,w0 = w.alloc (.cells #[.int .i64 3,.int .i64 f.number,.slice sp f.cols.length sc,.int .i64 f.seq,.int .i64 f.first,.int .i64 f.rows,.slice bp f.block.length bc,.int .i64 f.index.at_,.int .i64 f.index.frames,.int .i64 f.index.rows,.slice ep f.index.entries.length ec] 30):=⟨_,rfl⟩
  have hz0:w0.heap.size = w.heap.size + 1:=by rw [hw0];simp
  have HB0:Hid (Below w.heap.size w w0):=by rw [hw0];exact (Below.refl _ _).alloc (Nat.le_refl _) _
  have hK0:w0.heap[w.heap.size]? = some (.cells #[.int .i64 3,.int .i64 f.number,.slice sp f.cols.length sc,.int .i64 f.seq,.int .i64 f.first,.int .i64 f.rows,.slice bp f.block.length bc,.int .i64 f.index.at_,.int .i64 f.index.frames,.int .i64 f.index.rows,.slice ep f.index.entries.length ec] 30 (0,0)):=by rw [hw0];exact blk_new w _
  obtain ⟨w1,hw1⟩:∃ w1,w1 = w0.alloc (.cells #[.int .u8 3] 5):=⟨_,rfl⟩
  have hz1:w1.heap.size = w.heap.size + 2:=by rw [hw1];simp [hz0]
  have HB01:Hid (Below w0.heap.size w0 w1):=by rw [hw1];exact (Below.refl _ _).alloc (Nat.le_refl _) _
  have HL1:Hid (Has w1 w0.heap.size (.slice (some ⟨w.heap.size + 1,0,none⟩) 1 1) [3]):=by
    have:=has_lit (B:=w0.heap.size) (w:=w0) [3] (C:=#[.int .u8 3]) rfl (Nat.le_refl _) (by simp)
    rw [← hw1] at this
    show Has _ _ _ _
    rw [hz0] at this ⊢
    exact this
  obtain ⟨wX,hwX⟩:∃ wX,wX = w1.alloc (.cells #[.int .i64 f.index.at_,.int .i64 f.index.frames,.int .i64 f.index.rows,.slice ep f.index.entries.length ec] 28):=⟨_,rfl⟩
  have hzX:wX.heap.size = w.heap.size + 3:=by rw [hwX];simp [hz1]
  have HB1X:Hid (Below w1.heap.size w1 wX):=by rw [hwX];exact (Below.refl _ _).alloc (Nat.le_refl _) _
  have hKX:wX.heap[w.heap.size + 2]? = some (.cells #[.int .i64 f.index.at_,.int .i64 f.index.frames,.int .i64 f.index.rows,.slice ep f.index.entries.length ec] 28 (0,0)):=by rw [hwX,← hz1];exact blk_new w1 _
  obtain ⟨w2,hw2⟩:∃ w2,w2 = wX.alloc (.cells #[.int .i64 f.index.at_,.int .i64 f.index.frames,.int .i64 f.index.rows,.int .i64 (f.index.entries.length:Int)] 2):=⟨_,rfl⟩
  have HBX2:Hid (Below wX.heap.size wX w2):=by rw [hw2];exact (Below.refl _ _).alloc (Nat.le_refl _) _
  have HW:Hid ((((w.alloc (.cells #[.int .i64 3,.int .i64 f.number,.slice sp f.cols.length sc,.int .i64 f.seq,.int .i64 f.first,.int .i64 f.rows,.slice bp f.block.length bc,.int .i64 f.index.at_,.int .i64 f.index.frames,.int .i64 f.index.rows,.slice ep f.index.entries.length ec] 30)).alloc (.cells #[.int .u8 3] 5)).alloc (.cells #[.int .i64 f.index.at_,.int .i64 f.index.frames,.int .i64 f.index.rows,.slice ep f.index.entries.length ec] 28)).alloc (.cells #[.int .i64 f.index.at_,.int .i64 f.index.frames,.int .i64 f.index.rows,.int .i64 (f.index.entries.length:Int)] 2) = w2):=by rw [hw2,hwX,hw1,hw0];exact rfl
  have hin:(0 ≤ f.index.at_ ∧ 0 ≤ f.index.frames ∧ 0 ≤ f.index.rows) ∧ f.index.entries.length ≤ 64 ∧ f.index.entries.all Fr.entOk = true:=by
    unfold Fr.err0 at he
    rw [if_neg (by omega),if_neg (by omega),if_pos hk] at he
    unfold Fr.idxErr at he
    by_cases hb:(Fr.within Fr.S f.index.at_ && Fr.within Fr.S f.index.frames && Fr.within Fr.S f.index.rows) = false
    · rw [if_pos hb] at he;omega
    · rw [if_neg hb] at he
      rw [Bool.not_eq_false] at hb
      simp only [Bool.and_eq_true,Fr.within_iff] at hb
      by_cases h64:64 < f.index.entries.length
      · rw [if_pos h64] at he;omega
      · rw [if_neg h64] at he
        by_cases hal:f.index.entries.all Fr.entOk = false
        · rw [if_pos hal] at he;omega
        · rw [Bool.not_eq_false] at hal
          exact ⟨by omega,by omega,hal⟩
  obtain ⟨v0,v1,v2,v3,v4,v5,v6,v7⟩:=hw
  unfold Fr.i64 at v6
  have HEw:Hid (∀ e ∈ f.index.entries,(0 ≤ e.at_ ∧ e.at_ ≤ 9223372036854775807) ∧ (0 ≤ e.row ∧ e.row ≤ 9223372036854775807) ∧ (0 ≤ e.sch ∧ e.sch ≤ 9223372036854775807)):=fun e hm => by
    have h1:=List.all_eq_true.1 hin.2.2 e hm
    unfold Fr.entOk at h1
    simp only [Bool.and_eq_true,Fr.within_iff] at h1
    have hs:Fr.S = 1099511627776:=rfl
    rw [hs] at h1
    omega
  have hI:Ints w2 (w.heap.size + 3) [f.index.at_,f.index.frames,f.index.rows,(f.index.entries.length:Int)]:=by rw [hw2];exact ints_at hzX [f.index.at_,f.index.frames,f.index.rows,(f.index.entries.length:Int)] rfl
  have h64:=hin.2.1
  have HP:=Lib.hid (refNums (w.heap.size + 3) [f.index.at_,f.index.frames,f.index.rows,(f.index.entries.length:Int)] (by simp) (fun m hm => by
      simp only [List.mem_cons,List.not_mem_nil,or_false] at hm
      omega) w2 hI)
  have hnl:(Fr.nums [f.index.at_,f.index.frames,f.index.rows,(f.index.entries.length:Int)]).length ≤ 40:=by
    have g1:=Leb.put_length_le f.index.at_.toNat
    have g2:=Leb.put_length_le f.index.frames.toNat
    have g3:=Leb.put_length_le f.index.rows.toNat
    have g4:=Leb.put_length_le (f.index.entries.length:Int).toNat
    simp only [Fr.nums_cons,Fr.nums_nil,List.append_nil,List.length_append]
    omega
  have HHd:Hid (Fr.head f = 3 :: (Fr.nums [f.index.at_,f.index.frames,f.index.rows,(f.index.entries.length:Int)] ++ (f.index.entries.map Fr.entB).flatten)):=by
    show _ = _
    unfold Fr.head Fr.fields
    rw [if_neg (by omega),if_neg (by omega),hk]
    rfl
  have HB0X:Hid (Below w0.heap.size w0 wX):=HB01.out.trans (HB1X.out.mono HB01.out.size)
  have HB02:Hid (Below w0.heap.size w0 w2):=HB0X.out.trans (HBX2.out.mono HB0X.out.size)
  have HB12:Hid (Below w1.heap.size w1 w2):=HB1X.out.trans (HBX2.out.mono HB1X.out.size)
  have HEs:=Lib.hid h9
  rw [hk]
  have HK0:=Lib.hid hK0
  have HKX:=Lib.hid ((HBX2.out.block _ (by omega)).trans hKX)
  obtain ⟨ns,hns⟩:∃ ns,ns = Fr.nums [f.index.at_,f.index.frames,f.index.rows,(f.index.entries.length:Int)]:=⟨_,rfl⟩
  rw [← hns] at HP hnl HHd
  have hz2:w2.heap.size = w.heap.size + 4:=by rw [hw2];simp [hzX]
  clear hw0 hw1 hwX hw2 hK0 hKX hx h3 h6 h9 hk he hI hin hns v0 v1 v2 v3 v4 v5 v6 v7
  go_enter Tryz.func11,Tryz.ntmps11
  go_wp2_with fail
  rw [HW.out]
  refine HP.out.mono ?_
  rintro e w3 ⟨p3,cap3,rfl,hh3,hb3⟩
  have HB03:=Lib.hid (HB02.out.trans (hb3.mono HB02.out.size))
  have HB13:=Lib.hid (HB12.out.trans (hb3.mono HB12.out.size))
  have HKX3:=Lib.hid ((hb3.block _ (by omega)).trans HKX.out)
  have HA3:=Lib.hid (has_slice hh3)
  have HL3:=Lib.hid (HL1.out.on HB13.out)
  have hz3:=hb3.size
  clear hh3 hb3 HP HW HKX
  have hz0':=HB03.out.size
  go_wp2_with (first
    | (at_builtin
       refine wp_ontoL HL3.out HA3.out (by simp only [List.length_cons,List.length_nil];omega) (by omega) rfl rfl rfl rfl rfl ?_
       intro ys4 q4 cap4 W4 HY4 hh4 ha4 hk4
       have HBy4:=Lib.hid (aside_low ha4 HL3.out (by omega))
       have HHy4:=Lib.hid hh4
       have HKX4:=Lib.hid ((ha4.block (w.heap.size + 2) (by omega) (fun hc => by have h:some (w.heap.size + 1) = some (w.heap.size + 2):=hc;injection h with h;omega)).trans HKX3.out)
       have hz4:=ha4.size
       clear ha4 hk4 hh4)
    | fail)
  have HB04:Hid (Below w0.heap.size w0 W4):=HB03.out.trans HBy4.out
  have hy4:ys4.length ≤ 41:=by rw [HY4.out];simp;omega
  have HKX4l:Hid (w.heap.size + 2 < W4.heap.size):=Lib.hid (by omega:w.heap.size + 2 < W4.heap.size)
  go_loopw [4,6] (fun v4 v6 wr => ∃ (k:Nat) (xs:List UInt8),k ≤ f.index.entries.length ∧ v6 = .int .i64 k ∧ xs.length ≤ 30 * k ∧ Hid (xs = ((f.index.entries.take k).map Fr.entB).flatten ∧ Has wr W4.heap.size v4 xs ∧ Below W4.heap.size W4 wr)) (fun _ v6 _ => f.index.entries.length - (intOf v6).toNat)
  case atStart => exact ⟨0,[],by omega,rfl,by simp,rfl,has_nil _ _,Below.refl _ _⟩
  case round =>
    obtain ⟨k,xs,hk,rfl,hxl,HK⟩:=hrel
    have HO:=Lib.hid HK.out.2.1
    have HBr:=Lib.hid HK.out.2.2
    have HXs:=Lib.hid HK.out.1
    have hsr:=HBr.out.size
    have hKr:=(HBr.out.block _ HKX4l.out).trans HKX4.out
    have n3:=blk_cell hKr 3
    simp only [List.getElem?_toArray,List.getElem?_cons_zero,List.getElem?_cons_succ] at n3
    by_cases hlt:k < f.index.entries.length
    · have hlt':(k:Int) < (f.index.entries.length:Int):=by omega
      obtain ⟨bb,ob,hep,hbb,a0,a1,a2⟩:=(HEs.out.on (HB0.out.trans ((HB04.out.trans (HBr.out.mono (by omega))).mono HB0.out.size))) k hlt
      have hu:=HEw.out f.index.entries[k] (List.getElem_mem hlt)
      subst hep
      obtain ⟨ea,hea⟩:∃ ea,ea = f.index.entries[k].at_:=⟨_,rfl⟩
      obtain ⟨eb,heb⟩:∃ eb,eb = f.index.entries[k].row:=⟨_,rfl⟩
      obtain ⟨eC,hec⟩:∃ eC,eC = f.index.entries[k].sch:=⟨_,rfl⟩
      have HE1:=Lib.hid (entB_take_succ f.index.entries k hlt)
      have HEb:Hid (Fr.entB f.index.entries[k] = Fr.nums [ea,eb,eC]):=by
        show _ = _
        rw [hea,heb,hec]
        rfl
      rw [← hea] at a0 hu
      rw [← heb] at a1 hu
      rw [← hec] at a2 hu
      have HP:Hid (Calls Tryz.prog 22 #[.slice (some ⟨wr.heap.size,0,none⟩) 3 3] (wr.alloc (.cells #[.int .i64 ea,.int .i64 eb,.int .i64 eC] 2)).drew fun e w'' => ∃ p cap,e = .returned (.slice p (Fr.nums [ea,eb,eC]).length cap) ∧ At w'' p (Fr.nums [ea,eb,eC]) ∧ Below wr.heap.size wr w''):=by
        refine (refNums wr.heap.size [ea,eb,eC] (by simp) (fun m hm => ?_) _ (ints_new wr [ea,eb,eC] rfl).drew).mono ?_
        · simp only [List.mem_cons,List.not_mem_nil,or_false] at hm
          omega
        · rintro e w'' ⟨p,cap,rfl,hh,hb⟩
          have hb0:Below wr.heap.size wr (wr.alloc (.cells #[.int .i64 ea,.int .i64 eb,.int .i64 eC] 2)).drew:=((Below.refl _ _).alloc (Nat.le_refl _) _).drew
          exact ⟨p,cap,rfl,has_slice hh,hb0.trans (hb.mono hb0.size)⟩
      have hul:(Fr.nums [ea,eb,eC]).length ≤ 30:=by
        have h1:=Leb.put_length_le ea.toNat
        have h2:=Leb.put_length_le eb.toNat
        have h3:=Leb.put_length_le eC.toNat
        simp only [Fr.nums_cons,Fr.nums_nil,List.append_nil,List.length_append]
        omega
      obtain ⟨u,hu'⟩:∃ u,u = Fr.nums [ea,eb,eC]:=⟨_,rfl⟩
      rw [← hu'] at HP hul HEb
      clear hu' hea heb hec hu HK hKr
      go_wp2_with fail
      go_region_held3 (fun w' => w'.cell? ⟨bb,ob + k * 3,none⟩ = some (.int .i64 ea) ∧ w'.cell? ⟨bb,ob + k * 3 + 1,none⟩ = some (.int .i64 eb) ∧ w'.cell? ⟨bb,ob + k * 3 + 2,none⟩ = some (.int .i64 eC) ∧ w'.cell? ⟨w.heap.size + 2,3,none⟩ = some (.slice (some ⟨bb,ob,none⟩) f.index.entries.length ec)) (go_keep) (first
        | (go_at_call 22;refine HP.out.mono ?_;rintro e w5 ⟨p5,cap5,rfl,ha5,hb5⟩;have z0:=cell_on hb5 a0;have z1:=cell_on hb5 a1;have z2:=cell_on hb5 a2;have z3:=cell_on hb5 n3;have HA5:=Lib.hid ha5;have HB5:=Lib.hid hb5;have hs5:=hb5.size;clear ha5 hb5))
      go_wp2_with (first
        | (at_builtin
           refine wp_ontoL (HO.out.on HB5.out) HA5.out (by omega) (by omega) rfl rfl rfl rfl rfl ?_
           intro ys q6 cap6 W HY hh ha hk2
           have HB6:=Lib.hid (aside_low ha (HO.out.on HB5.out) (by omega))
           have HYs:=Lib.hid hh
           have hyl:ys.length ≤ 30 * (k + 1):=by rw [HY.out,List.length_append];omega
           clear ha hk2 hh)
        | fail)
      go_roundw
      case rel =>
        refine ⟨k + 1,ys,by omega,by go_num,hyl,?_,HYs.out,(HBr.out.trans (HB5.out.mono hsr)).trans HB6.out⟩
        rw [HY.out,HXs.out,HE1.out,HEb.out]
      case measure => simp [intOf];omega
    · have hkk:k = f.index.entries.length:=by omega
      subst hkk
      have HXe:Hid (xs = (f.index.entries.map Fr.entB).flatten):=by
        show _ = _
        rw [HXs.out,List.take_length]
      obtain ⟨p8,cap8,rfl,ha8,-⟩:=HO.out.at
      have HA8:=Lib.hid ha8
      have HH8:=Lib.hid (HHy4.out.on HBr.out)
      have HB08:=Lib.hid (HB04.out.trans (HBr.out.mono (by omega)))
      have hz8:=HB08.out.size
      clear ha8 HK hKr
      go_wp2_with (first
        | (at_builtin
           refine wp_ontoL HH8.out HA8.out (by first | omega | (simp only [List.length_cons,List.length_nil];omega)) (by omega) rfl rfl rfl rfl rfl ?_
           intro ys6 q6 cap6 W6 HY6 hh6 ha6 hk6
           have HBy6:=Lib.hid (aside_low ha6 HH8.out (by omega))
           have HHy6:=Lib.hid hh6
           clear ha6 hk6 hh6)
        | fail)
      have HB06:Hid (Below w0.heap.size w0 W6):=HB08.out.trans HBy6.out
      have hy6:ys6.length ≤ 3000:=by rw [HY6.out,List.length_append];omega
      have HZ:Hid (Fr.check ys6 = Fr.check (Fr.head f)):=by show _ = _;rw [HY6.out,HY4.out,HXe.out,HHd.out];rfl
      have HCk:=Lib.hid (refChecked q6 cap6 ys6 (by omega) W6 (has_slice HHy6.out))
      have HBW:=HB06
      go_wp2_with fail
      refine HCk.out.mono ?_
      rintro e w9 ⟨q9,cap9,rfl,hh9,hb9⟩
      have HB9:=Lib.hid (HB0.out.trans ((HBW.out.trans (hb9.mono HBW.out.size)).mono HB0.out.size))
      have HH9:=Lib.hid (hh9.lower (B':=w.heap.size) (Nat.le_trans HB0.out.size HBW.out.size))
      clear hh9 hb9 HCk
      go_wp2
      go_ret
      rw [← HZ.out]
      exact ⟨_,_,rfl,HH9.out,HB9.out⟩
theorem refBody (f:Fr) (hbk:f.block.length ≤ 140737488351232) (hw:f.wf) (he:Fr.err0 f = 0) (u:Array Value) (w:World) (hx:FLies w u f) :
  Calls Tryz.prog 11 #[.agg u] w (BodyV w (Fr.check (Fr.head f))):=by
 rcases Fr.head_fields he with h1 | h2 | h3
 ·exact refBody_1 f h1 hw he u w hx
 ·exact refBody_2 f h2 hbk hw he u w hx
 ·exact refBody_3 f h3 hw he u w hx
end Go.Proofs.YtfcblnknoljkhaaGreatDoor
