import Derived.Test.YtfcblnknoljkhaaGreatDoorA2
import Derived.Test.YtfcblnknoljkhaaGreatDoorA1
import Derived.Test.YtfcblnknoljkhaaGreatDoorB05
import Derived.Test.YtfcblnknoljkhaaGreatDoorB10
set_option maxRecDepth 100000
set_option maxHeartbeats 4000000
namespace Go.Proofs.YtfcblnknoljkhaaGreatDoor
open Go.RowKit
theorem refWithin (n b:Int) (w:World):Calls Tryz.prog 19 #[.int .i64 n,.int .i64 b] w fun e w' => e = .returned (.bool (Fr.within b n)) ∧ w' = w:=by
 by_cases h1:0 ≤ n
 ·by_cases h2:n < b
  ·have e:Fr.within b n = true:=decide_eq_true ⟨h1,h2⟩
   rw [e]
   clear e
   go_enter Tryz.func19,Tryz.ntmps19
   go_wp2
   go_ret
   exact ⟨rfl,rfl⟩
  ·have e:Fr.within b n = false:=decide_eq_false (fun h => h2 h.2)
   rw [e]
   clear e
   go_enter Tryz.func19,Tryz.ntmps19
   go_wp2
   go_ret
   exact ⟨rfl,rfl⟩
 ·have e:Fr.within b n = false:=decide_eq_false (fun h => h1 h.1)
  rw [e]
  clear e
  go_enter Tryz.func19,Tryz.ntmps19
  go_wp2
  go_ret
  exact ⟨rfl,rfl⟩
theorem refNums (b:Nat) (l:List Int) (hl:l.length ≤ 100) (hw:∀ n ∈ l,0 ≤ n ∧ n ≤ 9223372036854775807) (w:World) (h:Ints w b l) :
    Calls Tryz.prog 22 #[.slice (some ⟨b,0,none⟩) l.length l.length] w fun e w' => ∃ p cap,e = .returned (.slice p (Fr.nums l).length cap) ∧ Has w' w.heap.size (.slice p (Fr.nums l).length cap) (Fr.nums l) ∧ Below w.heap.size w w':=by
  have H:=Lib.hid h
  have HW:=Lib.hid hw
  clear h hw
  go_enter Tryz.func22,Tryz.ntmps22
  go_wp2
  go_loopw [3,4] (fun v3 v8 wr => ∃ (k:Nat) (xs:List UInt8),k ≤ l.length ∧ v8 = .int .i64 k ∧ xs.length ≤ 10 * k ∧ Hid (xs = Fr.nums (l.take k) ∧ Has wr w.heap.size v3 xs ∧ Below w.heap.size w wr)) (fun _ v8 _ => l.length - (intOf v8).toNat)
  case atStart => exact ⟨0,[],by omega,rfl,by simp,rfl,has_nil _ _,Below.refl _ _⟩
  case round =>
    obtain ⟨k,xs,hk,rfl,hx,HK⟩:=hrel
    have hB:=HK.out.2.2.size
    have HO:=Lib.hid HK.out.2.1
    by_cases hlt:k < l.length
    · have hlt':(k:Int) < (l.length:Int):=by omega
      have hc:wr.cell? ⟨b,k,none⟩ = some (.int .i64 l[k]):=(HK.out.2.2.cell (p:=⟨b,k,none⟩) H.out.1).trans (H.out.2 k hlt)
      have hb2:=HW.out l[k] (List.getElem_mem hlt)
      have HT:=Lib.hid (nums_take_succ l k hlt)
      obtain ⟨m,hm⟩:∃ m:Nat,(m:Int) = l[k]:=⟨l[k].toNat,by omega⟩
      rw [← hm] at hc hb2 HT
      have hm63:(m:Int) ≤ 9223372036854775807:=hb2.2
      have HP:Hid (∀ z:Int,z = (m:Int) → Calls Tryz.prog 35 #[.int .u64 z] wr fun e w' => ∃ g cap,e = .returned (.slice (some ⟨g,0,none⟩) (Leb.put m).length cap) ∧ Mine w' wr.heap.size g cap (Leb.put m) ∧ Below wr.heap.size wr w'):=fun z hz => by
        subst hz;exact refPut_any _ (by omega) wr
      have hpl:=Leb.put_length_le m
      have HT2:Hid (Fr.nums (l.take (k + 1)) = Fr.nums (l.take k) ++ Leb.put m):=by
        show _ = _
        rw [HT.out,Int.toNat_natCast]
      clear hm hb2 HT
      obtain ⟨u,hu⟩:∃ u,u = Leb.put m:=⟨_,rfl⟩
      rw [← hu] at HP hpl HT2
      clear hu
      go_wp2_with fail
      refine (HP.out _ (by omega)).mono ?_
      rintro e w1 ⟨g,cap1,rfl,hmn,hb1⟩
      have HM:=Lib.hid hmn
      have HB1:=Lib.hid hb1
      have hB1:=hb1.size
      clear hmn hb1 HP
      go_wp2_with (first
        | (at_builtin
           refine wp_ontoL (HO.out.on HB1.out) HM.out.at (by omega) (by omega) rfl rfl rfl rfl rfl ?_
           intro ys q3 cap3 W HY hh ha hk2
           have HB2:=Lib.hid (aside_low ha (HO.out.on HB1.out) (by omega))
           have HH:=Lib.hid hh
           have hyl:ys.length ≤ 10 * (k + 1):=by rw [HY.out,List.length_append];omega
           clear ha hk2 hh)
        | fail)
      go_roundw
      case rel => exact ⟨k + 1,ys,by omega,by go_num,hyl,by rw [HY.out,HT2.out,HK.out.1],HH.out,(HK.out.2.2.trans (HB1.out.mono hB)).trans HB2.out⟩
      case measure => simp [intOf];omega
    · have hkk:k = l.length:=by omega
      subst hkk
      have HX:Hid (xs = Fr.nums l):=by
        show _ = _
        rw [HK.out.1,List.take_length]
      obtain ⟨p,cap,rfl,-,-⟩:=HO.out.at
      go_wp2
      go_ret
      rw [← HX.out]
      exact ⟨p,cap,rfl,HO.out,HK.out.2.2⟩
theorem three_not {a b c:Bool} (h:¬ (a && b && c) = true):a = false ∨ (a = true ∧ b = false) ∨ (a = true ∧ b = true ∧ c = false):=by
 revert h;cases a <;> cases b <;> cases c <;> simp
theorem three_all {a b c:Bool} (h:(a && b && c) = true):a = true ∧ b = true ∧ c = true:=by
 revert h;cases a <;> cases b <;> cases c <;> simp
theorem ent_take_succ (es:List Ent) (i:Nat) (h:i < es.length) (h1:(es.take i).all Fr.entOk = true) (h2:Fr.entOk es[i] = true):(es.take (i + 1)).all Fr.entOk = true:=by
 rw [List.take_succ_eq_append_getElem h,List.all_append,h1]
 simp [h2]
theorem refIndex (a b c:Int) (es:List Ent) (p:Option Addr) (ec:Nat) (w:World) (hl:es.length * 24 ≤ 140737488351232) (h:Ents w p es) :
  Calls Tryz.prog 21 #[.agg #[.int .i64 a,.int .i64 b,.int .i64 c,.slice p es.length ec]] w fun e w' => e = .returned (.int .i64 (Fr.idxErr ⟨a,b,c,es⟩:Nat)) ∧ Below w.heap.size w w':=by
 obtain ⟨R,hR⟩:∃ R,R = Fr.idxErr ⟨a,b,c,es⟩:=⟨_,rfl⟩
 rw [← hR]
 unfold Fr.idxErr at hR
 dsimp only at hR
 obtain ⟨W0,hW0⟩:∃ W0,W0 = w.alloc (.cells #[.int .i64 a,.int .i64 b,.int .i64 c,.slice p es.length ec] 28):=⟨_,rfl⟩
 have HB0:Hid (Below w.heap.size w W0):=by rw [hW0];exact (Below.refl _ _).alloc (Nat.le_refl _) _
 have y0:W0.cell? ⟨w.heap.size,0,none⟩ = some (.int .i64 a):=by rw [hW0];simp
 have y1:W0.cell? ⟨w.heap.size,1,none⟩ = some (.int .i64 b):=by rw [hW0];simp
 have y2:W0.cell? ⟨w.heap.size,2,none⟩ = some (.int .i64 c):=by rw [hW0];simp
 have y3:W0.cell? ⟨w.heap.size,3,none⟩ = some (.slice p es.length ec):=by rw [hW0];simp
 have HW0:Hid (w.alloc (.cells #[.int .i64 a,.int .i64 b,.int .i64 c,.slice p es.length ec] 28) = W0):=by rw [hW0];exact rfl
 have H:=Lib.hid (h.on HB0.out)
 have HR:=Lib.hid hR
 clear h hW0 hR
 have H1:=Lib.hid (refWithin a 1099511627776 W0)
 have H2:=Lib.hid (refWithin b 1099511627776 W0)
 have H3:=Lib.hid (refWithin c 1099511627776 W0)
 have HS:Hid (Fr.S = 1099511627776):=rfl
 rw [HS.out] at HR
 generalize Fr.within 1099511627776 a = t1 at H1 HR
 generalize Fr.within 1099511627776 b = t2 at H2 HR
 generalize Fr.within 1099511627776 c = t3 at H3 HR
 go_enter Tryz.func21,Tryz.ntmps21
 go_wp2_with fail
 rw [HW0.out]
 refine H1.out.mono ?_
 rintro e w1 ⟨rfl,hw1⟩
 rw [hw1]
 clear hw1 w1 H1
 go_wp2_with fail
 refine H2.out.mono ?_
 rintro e w1 ⟨rfl,hw1⟩
 rw [hw1]
 clear hw1 w1 H2
 go_wp2_with fail
 refine H3.out.mono ?_
 rintro e w1 ⟨rfl,hw1⟩
 rw [hw1]
 clear hw1 w1 H3
 by_cases hall:(t1 && t2 && t3) = true
 ·rw [if_neg (by rw [hall];decide)] at HR
  obtain ⟨rfl,rfl,rfl⟩:=three_all hall
  clear hall
  by_cases h64:64 < es.length
  ·rw [if_pos h64] at HR
   have h64':(64:Int) < (es.length:Int):=by omega
   clear h64
   go_wp2
   go_ret
   exact ⟨by rw [HR.out];rfl,HB0.out⟩
  ·rw [if_neg h64] at HR
   have h64':¬ (64:Int) < (es.length:Int):=by omega
   go_wp2_with fail
   go_loopw [6] (fun v6 wr => ∃ i:Nat,i ≤ es.length ∧ v6 = .int .i64 i ∧ wr = W0 ∧ Hid ((es.take i).all Fr.entOk = true)) (fun v6 _ => es.length - (intOf v6).toNat)
   case atStart => exact ⟨0,by omega,rfl,rfl,rfl⟩
   case round =>
    obtain ⟨i,hi,rfl,rfl,HT⟩:=hrel
    by_cases hlt:i < es.length
    ·have hlt':(i:Int) < (es.length:Int):=by omega
     obtain ⟨b1,o1,hp,-,x0,x1,x2⟩:=H.out i hlt
     subst hp
     have HTT:Hid (Fr.entOk es[i] = true → (es.take (i + 1)).all Fr.entOk = true):=fun hh => ent_take_succ es i hlt HT.out hh
     have HFF:Hid (Fr.entOk es[i] = false → R = 7):=fun hh => by
      rw [HR.out,if_pos]
      rw [List.all_eq_false]
      exact ⟨es[i],List.getElem_mem hlt,by rw [hh];decide⟩
     have HEO:Hid (Fr.entOk es[i] = (Fr.within 1099511627776 es[i].at_ && Fr.within 1099511627776 es[i].row && Fr.within 1099511627776 es[i].sch)):=rfl
     rw [HEO.out] at HTT HFF
     have G1:=Lib.hid (refWithin es[i].at_ 1099511627776 wr)
     have G2:=Lib.hid (refWithin es[i].row 1099511627776 wr)
     have G3:=Lib.hid (refWithin es[i].sch 1099511627776 wr)
     clear HEO HT
     generalize Fr.within 1099511627776 es[i].at_ = t1 at G1 HTT HFF
     generalize Fr.within 1099511627776 es[i].row = t2 at G2 HTT HFF
     generalize Fr.within 1099511627776 es[i].sch = t3 at G3 HTT HFF
     generalize es[i].at_ = a' at x0 G1
     generalize es[i].row = b' at x1 G2
     generalize es[i].sch = c' at x2 G3
     go_wp2_with fail
     refine G1.out.mono ?_
     rintro e w1 ⟨rfl,hw1⟩
     rw [hw1]
     clear hw1 w1 G1
     go_wp2_with fail
     refine G2.out.mono ?_
     rintro e w1 ⟨rfl,hw1⟩
     rw [hw1]
     clear hw1 w1 G2
     go_wp2_with fail
     refine G3.out.mono ?_
     rintro e w1 ⟨rfl,hw1⟩
     rw [hw1]
     clear hw1 w1 G3
     by_cases hall:(t1 && t2 && t3) = true
     ·have HN:=Lib.hid (HTT.out hall)
      obtain ⟨rfl,rfl,rfl⟩:=three_all hall
      clear hall HTT HFF
      go_wp2
      go_roundw
      case rel => exact ⟨i + 1,by omega,by go_num,by first | rfl | trivial,HN⟩
      case measure => simp [intOf];omega
     ·have HN:=Lib.hid (HFF.out (Bool.not_eq_true _ ▸ hall))
      have hne:=three_not hall
      clear hall HTT HFF
      rcases hne with rfl | ⟨rfl,rfl⟩ | ⟨rfl,rfl,rfl⟩
      all_goals
       go_wp2
       go_ret
       exact ⟨by rw [HN.out];rfl,HB0.out⟩
    ·have hii:i = es.length:=by omega
     subst hii
     have HN:Hid (R = 0):=by
      show _ = _
      have:=HT.out
      rw [List.take_length] at this
      rw [HR.out,if_neg (by rw [this];decide)]
     clear HT
     go_wp2
     go_ret
     exact ⟨by rw [HN.out];rfl,HB0.out⟩
 ·rw [if_pos (Bool.not_eq_true _ ▸ hall)] at HR
  have hne:=three_not hall
  clear hall
  rcases hne with rfl | ⟨rfl,rfl⟩ | ⟨rfl,rfl,rfl⟩
  all_goals
   go_wp2
   go_ret
   exact ⟨by rw [HR.out];rfl,HB0.out⟩
end Go.Proofs.YtfcblnknoljkhaaGreatDoor
