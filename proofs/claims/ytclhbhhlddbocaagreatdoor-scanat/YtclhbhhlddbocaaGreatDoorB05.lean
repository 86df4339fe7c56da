import Derived.Test.YtclhbhhlddbocaaGreatDoorB01
import Derived.Test.YtclhbhhlddbocaaGreatDoorB04
set_option maxRecDepth 100000
set_option maxHeartbeats 2000000
namespace Go.Proofs.YtclhbhhlddbocaaGreatDoor
open Go.RowKit
def Leb.Putting (n:Nat) (xs:List UInt8) (m:Nat):Prop:=xs.length ≤ 9 ∧ m < 2 * 128 ^ (9 - xs.length) ∧ Leb.put n = xs ++ Leb.putF (10 - xs.length) m
theorem Leb.putting_start {n:Nat} (h:n < 18446744073709551616):Leb.Putting n [] n:=by
 have e:2 * 128 ^ 9 = 18446744073709551616:=by decide
 exact ⟨by simp,by simpa [e] using h,rfl⟩
theorem Leb.putting_next {n:Nat} {xs:List UInt8} {m:Nat} (h:Leb.Putting n xs m) (hm:127 < m):Leb.Putting n (xs ++ [UInt8.ofNat (m % 128 + 128)]) (m / 128):=by
 obtain ⟨h1,h2,h3⟩:=h
 have h4:xs.length ≤ 8:=by
  rcases Nat.lt_or_ge 8 xs.length with h5 | h5
  ·have:9 - xs.length = 0:=by omega
   rw [this] at h2
   simp at h2
   omega
  ·exact h5
 refine ⟨by simp;omega,?_,?_⟩
 ·have e:9 - xs.length = (9 - (xs ++ [UInt8.ofNat (m % 128 + 128)]).length) + 1:=by simp;omega
  rw [e,Nat.pow_succ] at h2
  rw [Nat.div_lt_iff_lt_mul (by omega)]
  omega
 ·have e:10 - xs.length = (10 - (xs ++ [UInt8.ofNat (m % 128 + 128)]).length) + 1:=by simp;omega
  rw [h3,e,Leb.putF,if_neg (by omega),List.append_assoc]
  rfl
theorem Leb.putting_last {n:Nat} {xs:List UInt8} {m:Nat} (h:Leb.Putting n xs m) (hm:m ≤ 127):xs ++ [UInt8.ofNat m] = Leb.put n:=by
 obtain ⟨h1,h2,h3⟩:=h
 have e:10 - xs.length = (9 - xs.length) + 1:=by omega
 rw [h3,e,Leb.putF,if_pos (by omega)]
theorem refZag_any (u:Nat) (h:u < 18446744073709551616) (w:World) :
  Calls Tryz.prog 208 #[.int .u64 u] w fun e w' => e = .returned (.int .i64 (Leb.zag u)) ∧ w' = w:=by
 by_cases h0:u % 2 = 0
 ·have HE:Hid (Leb.zag u = ((u / 2:Nat):Int)):=by
   show _ = _
   unfold Leb.zag
   rw [if_pos h0]
  have hb:((u:Int) % 2 == 0) = true:=by rw [beq_iff_eq];omega
  clear h0
  go_enter Tryz.func208,Tryz.ntmps208
  go_wp2
  go_ret
  exact ⟨by rw [HE.out];go_num,rfl⟩
 ·have HE:Hid (Leb.zag u = -((u / 2:Nat):Int) - 1):=by
   show _ = _
   unfold Leb.zag
   rw [if_neg h0]
  have hb:((u:Int) % 2 == 0) = false:=by rw [beq_eq_false_iff_ne];omega
  clear h0
  go_enter Tryz.func208,Tryz.ntmps208
  go_wp2
  go_ret
  exact ⟨by rw [HE.out];go_num,rfl⟩
end Go.Proofs.YtclhbhhlddbocaaGreatDoor
namespace Go.Proofs.YtclhbhhlddbocaaGreatDoor
open Go.RowKit
def gotV (l:List UInt8) (a:Int):Value:=.tuple #[.int .u64 ((Leb.getAt l a).n:Nat),.int .i64 (Leb.nextAt l a),.int .i64 ((Leb.getAt l a).err:Nat)]
theorem gotV_out (l:List UInt8) (a:Int) (h:a < 0 ∨ (l.length:Int) ≤ a):gotV l a = .tuple #[.int .u64 0,.int .i64 0,.int .i64 30]:=by
 have e:Leb.getAt l a = ⟨30,0,0⟩:=by
  unfold Leb.getAt
  by_cases h0:a < 0
  ·rw [if_pos h0]
  ·rw [if_neg h0,List.drop_eq_nil_of_le (by omega)];rfl
 unfold gotV Leb.nextAt
 rw [e];rfl
theorem gotV_bad (l:List UInt8) (a:Nat) (c:Nat) (hc:c ≠ 0) (h:Leb.get (l.drop a) = ⟨c,0,0⟩):gotV l a = .tuple #[.int .u64 0,.int .i64 0,.int .i64 c]:=by
 have e:Leb.getAt l a = ⟨c,0,0⟩:=by
  unfold Leb.getAt
  rw [if_neg (by omega)]
  exact h
 unfold gotV Leb.nextAt
 rw [e,if_neg hc];rfl
theorem gotV_ok (l:List UInt8) (a n k:Nat) (h:Leb.get (l.drop a) = ⟨0,n,k⟩):gotV l a = .tuple #[.int .u64 n,.int .i64 ((a:Int) + k),.int .i64 0]:=by
 have e:Leb.getAt l a = ⟨0,n,k⟩:=by
  unfold Leb.getAt
  rw [if_neg (by omega)]
  exact h
 unfold gotV Leb.nextAt
 rw [e,if_pos rfl];rfl
theorem refGet_out (p:Option Addr) (c n:Nat) (a:Int) (h:a < 0 ∨ (n:Int) ≤ a) (w:World) :
  Calls Tryz.prog 145 #[.slice p n c,.int .i64 a] w fun e w' => e = .returned (.tuple #[.int .u64 0,.int .i64 0,.int .i64 30]) ∧ w' = w:=by
 by_cases h0:a < 0
 ·go_enter Tryz.func145,Tryz.ntmps145
  go_wp2
  go_ret3
  exact ⟨rfl,rfl⟩
 ·have h1:(n:Int) ≤ a:=by omega
  have hb0:decide (a < 0) = false:=decide_eq_false h0
  go_enter Tryz.func145,Tryz.ntmps145
  go_wp2
  go_ret3
  exact ⟨rfl,rfl⟩
theorem refGet_in (b o c a:Nat) (l:List UInt8) (hl:l.length ≤ 140737488351232) (ha:a < l.length) (w:World) (hc:Cells w b o l) :
  Calls Tryz.prog 145 #[.slice (some ⟨b,o,none⟩) l.length c,.int .i64 a] w fun e w' => e = .returned (gotV l a) ∧ w' = w:=by
 obtain ⟨r,hr⟩:∃ r,r = l.drop a:=⟨_,rfl⟩
 have hrl:r.length = l.length - a:=by rw [hr,List.length_drop]
 have HC:Hid (∀ j (h:j < r.length),w.cell? ⟨b,o + (a + j),none⟩ = some (.int .u8 (r[j].toNat:Int))):=by
  intro j h
  have:=hc (a + j) (by omega)
  rw [this]
  subst hr
  rw [List.getElem_drop]
 have HB:Hid (∀ e n k,Leb.get r = ⟨e,n,k⟩ → Leb.get (l.drop a) = ⟨e,n,k⟩):=by
  intro e n k h
  rw [← hr];exact h
 clear hc hr
 go_enter Tryz.func145,Tryz.ntmps145
 go_wp2
 go_loop [7] (fun v7 => ∃ k:Nat,k ≤ 10 ∧ k ≤ r.length ∧ v7 = .int .i64 k ∧ Hid (∀ j (h:j < r.length),j < k → 127 < r[j].toNat)) (fun v7 => 10 - (intOf v7).toNat)
 case atStart => exact ⟨0,by omega,by omega,rfl,fun j h h' => by omega⟩
 case round =>
  obtain ⟨k,hk,hkr,rfl,HK⟩:=hrel
  by_cases h10:k = 10
  ·subst h10
   have HG:=Lib.hid (gotV_bad l a 5 (by omega) (HB.out _ _ _ ((Leb.getF_high 10 true r).1 (Leb.high_eq 10 r 10 (by omega) hkr HK.out (.inl rfl)))))
   have hb1:decide ((10:Int) < 10) = false:=by decide
   clear HK
   go_wp2
   go_ret3
   exact ⟨by rw [HG.out];rfl,rfl⟩
  ·have hb1:(k:Int) < 10:=by omega
   by_cases hend:k = r.length
   ·subst hend
    have hh:=Leb.high_eq 10 r r.length (by omega) (by omega) HK.out (.inr (.inl rfl))
    have HG:=Lib.hid (gotV_bad l a 30 (by omega) (HB.out _ _ _ ((Leb.getF_high 10 true r).2.1 hh (by omega))))
    have hb2:decide ((r.length:Int) < (l.length:Int) - (a:Int)) = false:=decide_eq_false (by omega)
    have hb3:((r.length:Int) == 10) = false:=by rw [beq_eq_false_iff_ne];omega
    have hb4:((r.length:Int) == (l.length:Int) - (a:Int)) = true:=by rw [beq_iff_eq];omega
    clear HK hh
    go_wp2
    go_ret3
    exact ⟨by rw [HG.out];rfl,rfl⟩
   ·have hlt:k < r.length:=by omega
    have hcell:=HC.out k hlt
    have hb2:(k:Int) < (l.length:Int) - (a:Int):=by omega
    by_cases hhi:127 < r[k].toNat
    ·have HN:Hid (∀ j (h:j < r.length),j < k + 1 → 127 < r[j].toNat):=by
      intro j h hj
      by_cases e:j = k
      ·subst e;exact hhi
      ·exact HK.out j h (by omega)
     clear HK
     generalize r[k].toNat = v at hcell hhi
     go_wp2
     go_round
     case rel => exact ⟨k + 1,by omega,by omega,by go_num,HN⟩
     case measure => simp [intOf];omega
    ·have hh:=Leb.high_eq 10 r k (by omega) hkr HK.out (.inr (.inr ⟨hlt,hhi⟩))
     have hg:=(Leb.getF_high 10 true r).2.2 (by omega) (by omega)
     simp only [hh] at hg
     have hb3:((k:Int) == 10) = false:=by rw [beq_eq_false_iff_ne];omega
     have hb4:((k:Int) == (l.length:Int) - (a:Int)) = false:=by rw [beq_eq_false_iff_ne];omega
     by_cases hbad0:(k + 1 = 10 ∧ 1 < r[k].toNat) ∨ ((true = false ∨ 0 < k) ∧ r[k].toNat = 0)
     ·rw [if_pos hbad0] at hg
      have hbad:(k = 9 ∧ 1 < r[k].toNat) ∨ (0 < k ∧ r[k].toNat = 0):=by
       rcases hbad0 with ⟨x,y⟩ | ⟨x | x,y⟩
       ·exact .inl ⟨by omega,y⟩
       ·cases x
       ·exact .inr ⟨x,y⟩
      clear hbad0
      have HG:=Lib.hid (gotV_bad l a 5 (by omega) (HB.out _ _ _ hg))
      clear hg HK hh
      generalize r[k].toNat = v at hcell hhi hbad
      by_cases h9:k = 9
      ·subst h9
       by_cases hv:1 < v
       ·go_wp2
        go_ret3
        exact ⟨by rw [HG.out];rfl,rfl⟩
       ·have hv0:v = 0:=by omega
        subst hv0
        go_wp2
        go_ret3
        exact ⟨by rw [HG.out];rfl,rfl⟩
      ·have hb5:((k:Int) == 9) = false:=by rw [beq_eq_false_iff_ne];omega
       have hv0:v = 0:=by omega
       have hk0:(0:Int) < (k:Int):=by omega
       subst hv0
       go_wp2
       go_ret3
       exact ⟨by rw [HG.out];rfl,rfl⟩
     ·rw [if_neg hbad0] at hg
      have hbad:¬ ((k = 9 ∧ 1 < r[k].toNat) ∨ (0 < k ∧ r[k].toNat = 0)):=by
       rintro (⟨x,y⟩ | ⟨x,y⟩)
       ·exact hbad0 (.inl ⟨by omega,y⟩)
       ·exact hbad0 (.inr ⟨.inr x,y⟩)
      clear hbad0
      have hok:=Leb.get_ok r (by rw [show Leb.get r = _ from hg])
      rw [show Leb.get r = _ from hg] at hok
      have hlim:Leb.val (r.take (k + 1)) < 18446744073709551616:=hok.1
      have HG:=Lib.hid (gotV_ok l a _ _ (HB.out _ _ _ hg))
      clear hg HK hh hok
      obtain ⟨t,ht⟩:∃ t,t = r.take (k + 1):=⟨_,rfl⟩
      have htl:t.length = k + 1:=by rw [ht,List.length_take];omega
      have HV:Hid (∀ j (h:j < t.length),w.cell? ⟨b,o + (a + j),none⟩ = some (.int .u8 (t[j].toNat:Int))):=by
       intro j h
       rw [HC.out j (by omega)]
       subst ht
       rw [List.getElem_take]
      rw [← ht] at HG hlim
      clear ht
      have HD:Hid (Leb.val (t.drop (k + 1)) = 0):=by
       show _ = _
       rw [← htl,List.drop_length];rfl
      have HL:Hid (∀ j,Leb.val (t.drop j) ≤ Leb.val t):=fun j => Leb.val_drop_le t j
      generalize r[k].toNat = v at hcell hhi hbad
      clear HC HB
      by_cases h9:k = 9
      ·subst h9
       have hv:¬ (1:Int) < (v:Int):=by omega
       have hv0:((v:Int) == 0) = false:=by rw [beq_eq_false_iff_ne];omega
       go_wp2
       go_loop [8,9] (fun v8 v9 => ∃ (j m:Nat),j ≤ 9 + 1 ∧ v9 = .int .i64 ((j:Int) - 1) ∧ v8 = .int .u64 m ∧ m < 18446744073709551616 ∧ Hid (m = Leb.val (t.drop j))) (fun _ v9 => (intOf v9 + 1).toNat)
       case atStart => exact ⟨9 + 1,0,by omega,by go_num,rfl,by omega,HD.out.symm⟩
       case round =>
        obtain ⟨j,m,hj,rfl,rfl,hm,HM⟩:=hrel
        by_cases hj0:j = 0
        ·subst hj0
         have HE:Hid (m = Leb.val t):=HM
         clear HM
         go_wp2
         go_ret3
         exact ⟨by rw [HG.out,HE.out] <;> rfl,rfl⟩
        ·obtain ⟨i,rfl⟩:∃ i,j = i + 1:=⟨j - 1,by omega⟩
         have hc:=HV.out i (by omega)
         have hvd:=Leb.val_drop t i (by omega)
         rw [← HM.out] at hvd
         have hle:=HL.out i
         have hc256:t[i].toNat < 256:=t[i].toNat_lt
         have HN:Hid (m * 128 + t[i].toNat % 128 = Leb.val (t.drop i)):=hvd.symm
         have hlt2:m * 128 + t[i].toNat % 128 < 18446744073709551616:=by omega
         clear hvd HM hle
         generalize t[i].toNat = c at hc hc256 HN hlt2
         go_wp2
         go_round
         case rel => exact ⟨i,m * 128 + c % 128,by omega,by go_num,by go_num,hlt2,HN⟩
         case measure => simp [intOf] <;> omega
      ·have hb5:((k:Int) == 9) = false:=by rw [beq_eq_false_iff_ne];omega
       by_cases hk0:k = 0
       ·have hk1:decide ((0:Int) < (k:Int)) = false:=decide_eq_false (by omega)
        have hk2:(k:Int) ≤ 0:=by omega
        clear hk0 hk1
        go_wp2
        go_loop [8,9] (fun v8 v9 => ∃ (j m:Nat),j ≤ k + 1 ∧ v9 = .int .i64 ((j:Int) - 1) ∧ v8 = .int .u64 m ∧ m < 18446744073709551616 ∧ Hid (m = Leb.val (t.drop j))) (fun _ v9 => (intOf v9 + 1).toNat)
        case atStart => exact ⟨k + 1,0,by omega,by go_num,rfl,by omega,HD.out.symm⟩
        case round =>
         obtain ⟨j,m,hj,rfl,rfl,hm,HM⟩:=hrel
         by_cases hj0:j = 0
         ·subst hj0
          have HE:Hid (m = Leb.val t):=HM
          clear HM
          go_wp2
          go_ret3
          exact ⟨by rw [HG.out,HE.out] <;> rfl,rfl⟩
         ·obtain ⟨i,rfl⟩:∃ i,j = i + 1:=⟨j - 1,by omega⟩
          have hc:=HV.out i (by omega)
          have hvd:=Leb.val_drop t i (by omega)
          rw [← HM.out] at hvd
          have hle:=HL.out i
          have hc256:t[i].toNat < 256:=t[i].toNat_lt
          have HN:Hid (m * 128 + t[i].toNat % 128 = Leb.val (t.drop i)):=hvd.symm
          have hlt2:m * 128 + t[i].toNat % 128 < 18446744073709551616:=by omega
          clear hvd HM hle
          generalize t[i].toNat = c at hc hc256 HN hlt2
          go_wp2
          go_round
          case rel => exact ⟨i,m * 128 + c % 128,by omega,by go_num,by go_num,hlt2,HN⟩
          case measure => simp [intOf] <;> omega
       ·have hk1:(0:Int) < (k:Int):=by omega
        have hv0:((v:Int) == 0) = false:=by rw [beq_eq_false_iff_ne];omega
        go_wp2
        go_loop [8,9] (fun v8 v9 => ∃ (j m:Nat),j ≤ k + 1 ∧ v9 = .int .i64 ((j:Int) - 1) ∧ v8 = .int .u64 m ∧ m < 18446744073709551616 ∧ Hid (m = Leb.val (t.drop j))) (fun _ v9 => (intOf v9 + 1).toNat)
        case atStart => exact ⟨k + 1,0,by omega,by go_num,rfl,by omega,HD.out.symm⟩
        case round =>
         obtain ⟨j,m,hj,rfl,rfl,hm,HM⟩:=hrel
         by_cases hj0:j = 0
         ·subst hj0
          have HE:Hid (m = Leb.val t):=HM
          clear HM
          go_wp2
          go_ret3
          exact ⟨by rw [HG.out,HE.out] <;> rfl,rfl⟩
         ·obtain ⟨i,rfl⟩:∃ i,j = i + 1:=⟨j - 1,by omega⟩
          have hc:=HV.out i (by omega)
          have hvd:=Leb.val_drop t i (by omega)
          rw [← HM.out] at hvd
          have hle:=HL.out i
          have hc256:t[i].toNat < 256:=t[i].toNat_lt
          have HN:Hid (m * 128 + t[i].toNat % 128 = Leb.val (t.drop i)):=hvd.symm
          have hlt2:m * 128 + t[i].toNat % 128 < 18446744073709551616:=by omega
          clear hvd HM hle
          generalize t[i].toNat = c at hc hc256 HN hlt2
          go_wp2
          go_round
          case rel => exact ⟨i,m * 128 + c % 128,by omega,by go_num,by go_num,hlt2,HN⟩
          case measure => simp [intOf] <;> omega
theorem refGet_any (p:Option Addr) (c:Nat) (l:List UInt8) (a:Int) (hl:l.length ≤ 140737488351232) (w:World) (h:At w p l) :
  Calls Tryz.prog 145 #[.slice p l.length c,.int .i64 a] w fun e w' => e = .returned (gotV l a) ∧ w' = w:=by
 by_cases h0:a < 0 ∨ (l.length:Int) ≤ a
 ·rw [gotV_out l a h0]
  exact refGet_out p c l.length a h0 w
 ·obtain ⟨n,rfl⟩:∃ n:Nat,a = (n:Int):=⟨a.toNat,by omega⟩
  obtain ⟨b,o,rfl,_,hc⟩:=at_some h (by omega)
  exact refGet_in b o c n l hl (by omega) w hc
end Go.Proofs.YtclhbhhlddbocaaGreatDoor
namespace Go.Proofs.YtclhbhhlddbocaaGreatDoor
open Go.RowKit
theorem text_get (t:ByteArray) (i:Nat) (h:i < t.size):t.data.toList[i]'(by simpa using h) = t[i]:=by rw [Array.getElem_toList];rfl
theorem refUtf6 (t:ByteArray) (ht:t.size ≤ 281474976702464) (w:World):Calls Tryz.prog 202 #[.string t] w fun e w' => e = .returned (.bool (U8.utf t.data.toList)) ∧ w' = w:=by
 go_enter Tryz.func202,Tryz.ntmps202
 go_wp2
 go_loop [3,4,5,6,7,16,19,28,37] (fun v3 _ _ _ _ _ _ _ _ => ∃ a:Nat,a ≤ t.size ∧ v3 = .int .i64 a ∧ Hid (U8.utf t.data.toList = U8.utf (t.data.toList.drop a))) (fun v3 _ _ _ _ _ _ _ _ => t.size - (intOf v3).toNat)
 case atStart => exact ⟨0,by omega,rfl,rfl⟩
 case round =>
  obtain ⟨a,ha,rfl,HU⟩:=hrel
  by_cases hlt:a < t.size
  ·have hlt':(a:Int) < (t.size:Int):=by omega
   have hc2:=t[a].toNat_lt
   have hll:t.data.toList.length = t.size:=by simp
   have hla:a < t.data.toList.length:=by omega
   have hne:t.data.toList.drop a ≠ []:=by
    intro hc
    have:=congrArg List.length hc
    rw [List.length_drop] at this
    simp at this
    omega
   by_cases k1:t[a].toNat < 128
   ·have k1':(t[a].toNat:Int) < 128:=by omega
    have HK:Hid (U8.kind t.data.toList[a].toNat = some (1,t[a].toNat - 0,0)):=by
     show _ = _
     rw [text_get t a hlt]
     unfold U8.kind
     rw [if_pos (by omega),Nat.sub_zero]
    have hsub:((t[a].toNat:Int) - 0) = ((t[a].toNat - 0:Nat):Int):=by omega
    have HI0:=Lib.hid (U8.in_start t.data.toList a 1 (t[a].toNat - 0) (by omega))
    go_wp2
    go_loop [4,7] (fun v4 v7 => ∃ i v:Nat,1 ≤ i ∧ i ≤ 1 ∧ v4 = .int .i64 v ∧ v7 = .int .i64 i ∧ Hid (U8.Inner t.data.toList a 1 (t[a].toNat - 0) i v)) (fun _ v7 => 1 - (intOf v7).toNat)
    case atStart => exact ⟨1,t[a].toNat - 0,by omega,by omega,rfl,rfl,HI0.out⟩
    case round =>
     obtain ⟨i,v,hi1,hin,rfl,rfl,HI⟩:=hrel
     clear HI0
     have hii:i = 1:=by omega
     subst hii
     have HE:=Lib.hid (U8.in_end HI.out)
     have hv5:=HI.out.2.2.2.2
     by_cases q2:1114111 < v
     ·have q2':(1114111:Int) < (v:Int):=by omega
      have HB:Hid (U8.utf t.data.toList = false):=by
       show _ = _
       have hm:U8.may 0 v = false:=by simp [U8.may];omega
       have ho:=U8.one_may hla HK.out HE.out
       rw [hm] at ho
       rw [HU.out]
       exact U8.utf_bad hne ho
      clear HI HE HK HU
      go_wp2
      go_ret
      exact ⟨by rw [HB.out];rfl,rfl⟩
     have q2':¬ (1114111:Int) < (v:Int):=by omega
     by_cases q3:55296 ≤ v
     ·have q3':(55296:Int) ≤ (v:Int):=by omega
      by_cases q4:v ≤ 57343
      ·have q4':(v:Int) ≤ 57343:=by omega
       have HB:Hid (U8.utf t.data.toList = false):=by
        show _ = _
        have hm:U8.may 0 v = false:=by simp [U8.may];omega
        have ho:=U8.one_may hla HK.out HE.out
        rw [hm] at ho
        rw [HU.out]
        exact U8.utf_bad hne ho
       clear HI HE HK HU
       go_wp2
       go_ret
       exact ⟨by rw [HB.out];rfl,rfl⟩
      have q4':¬ (v:Int) ≤ 57343:=by omega
      have HG:Hid (U8.utf t.data.toList = U8.utf (t.data.toList.drop (a + 1)) ∧ a + 1 ≤ t.size):=by
       have hm:U8.may 0 v = true:=by simp [U8.may];omega
       have ho:=U8.one_may hla HK.out HE.out
       rw [hm,if_pos rfl] at ho
       have hlen:=(U8.one_len ho).2
       rw [List.length_drop,hll] at hlen
       refine ⟨?_,by omega⟩
       rw [HU.out,U8.utf_step ho,List.drop_drop]
      clear HI HE HK HU
      go_wp2
      go_round
      case rel => exact ⟨a + 1,HG.out.2,by go_num,HG.out.1⟩
      case measure => simp [intOf];omega
     have q3':¬ (55296:Int) ≤ (v:Int):=by omega
     have HG:Hid (U8.utf t.data.toList = U8.utf (t.data.toList.drop (a + 1)) ∧ a + 1 ≤ t.size):=by
      have hm:U8.may 0 v = true:=by simp [U8.may];omega
      have ho:=U8.one_may hla HK.out HE.out
      rw [hm,if_pos rfl] at ho
      have hlen:=(U8.one_len ho).2
      rw [List.length_drop,hll] at hlen
      refine ⟨?_,by omega⟩
      rw [HU.out,U8.utf_step ho,List.drop_drop]
     clear HI HE HK HU
     go_wp2
     go_round
     case rel => exact ⟨a + 1,HG.out.2,by go_num,HG.out.1⟩
     case measure => simp [intOf];omega
   have k1':¬ (t[a].toNat:Int) < 128:=by omega
   by_cases k2:192 ≤ t[a].toNat ∧ t[a].toNat < 224
   ·obtain ⟨k2a,k2b⟩:=k2
    have k2a':(192:Int) ≤ (t[a].toNat:Int):=by omega
    have k2b':(t[a].toNat:Int) < 224:=by omega
    have HK:Hid (U8.kind t.data.toList[a].toNat = some (2,t[a].toNat - 192,128)):=by
     show _ = _
     rw [text_get t a hlt]
     unfold U8.kind
     rw [if_neg (by omega),if_pos (by omega)]
    have hsub:((t[a].toNat:Int) - 192) = ((t[a].toNat - 192:Nat):Int):=by omega
    have HI0:=Lib.hid (U8.in_start t.data.toList a 2 (t[a].toNat - 192) (by omega))
    go_wp2
    go_loop [4,7] (fun v4 v7 => ∃ i v:Nat,1 ≤ i ∧ i ≤ 2 ∧ v4 = .int .i64 v ∧ v7 = .int .i64 i ∧ Hid (U8.Inner t.data.toList a 2 (t[a].toNat - 192) i v)) (fun _ v7 => 2 - (intOf v7).toNat)
    case atStart => exact ⟨1,t[a].toNat - 192,by omega,by omega,by go_num,rfl,HI0.out⟩
    case round =>
     obtain ⟨i,v,hi1,hin,rfl,rfl,HI⟩:=hrel
     clear HI0
     by_cases hi:i < 2
     ·have hi':(i:Int) < 2:=by omega
      have hv3:=HI.out.2.2.2.1 (by omega)
      by_cases hs:t.size ≤ a + i
      ·have hs':(t.size:Int) ≤ (a:Int) + (i:Int):=by omega
       have HB:Hid (U8.utf t.data.toList = false):=by
        show _ = _
        rw [HU.out]
        exact U8.utf_bad hne (U8.one_none hla HK.out (U8.in_short HI.out hi (by omega)))
       clear HI HK HU
       go_wp2
       go_ret
       exact ⟨by rw [HB.out];rfl,rfl⟩
      have hs':¬ (t.size:Int) ≤ (a:Int) + (i:Int):=by omega
      have hs2:a + i < t.size:=by omega
      have hs3:(a:Int) + (i:Int) < (t.size:Int):=by omega
      have hte:=text_get t (a + i) hs2
      by_cases hb:128 ≤ t[a + i].toNat ∧ t[a + i].toNat < 192
      ·have HN:=Lib.hid (U8.in_next HI.out hi1 hi (by omega) (by omega) (by rw [hte];exact hb))
       rw [hte] at HN
       obtain ⟨hb1,hb2⟩:=hb
       have hb1':¬ (t[a + i].toNat:Int) < 128:=by omega
       have hb2':¬ (192:Int) ≤ (t[a + i].toNat:Int):=by omega
       clear HI HK HU hte
       go_wp2
       go_round
       case rel => exact ⟨i + 1,_,by omega,by omega,by go_num,by go_num,HN⟩
       case measure => simp [intOf];omega
      ·have HB:Hid (U8.utf t.data.toList = false):=by
        show _ = _
        rw [HU.out]
        exact U8.utf_bad hne (U8.one_none hla HK.out (U8.in_bad HI.out hi (by omega) (by rw [hte];exact hb)))
       clear HI HK HU hte
       by_cases hb1:t[a + i].toNat < 128
       ·have hb1':(t[a + i].toNat:Int) < 128:=by omega
        go_wp2
        go_ret
        exact ⟨by rw [HB.out];rfl,rfl⟩
       ·have hb1':¬ (t[a + i].toNat:Int) < 128:=by omega
        have hb2':(192:Int) ≤ (t[a + i].toNat:Int):=by omega
        go_wp2
        go_ret
        exact ⟨by rw [HB.out];rfl,rfl⟩
     have hii:i = 2:=by omega
     subst hii
     have HE:=Lib.hid (U8.in_end HI.out)
     have hv5:=HI.out.2.2.2.2
     by_cases q1:v < 128
     ·have q1':(v:Int) < 128:=by omega
      have HB:Hid (U8.utf t.data.toList = false):=by
       show _ = _
       have hm:U8.may 128 v = false:=by simp [U8.may];omega
       have ho:=U8.one_may hla HK.out HE.out
       rw [hm] at ho
       rw [HU.out]
       exact U8.utf_bad hne ho
      clear HI HE HK HU
      go_wp2
      go_ret
      exact ⟨by rw [HB.out];rfl,rfl⟩
     have q1':¬ (v:Int) < 128:=by omega
     by_cases q2:1114111 < v
     ·have q2':(1114111:Int) < (v:Int):=by omega
      have HB:Hid (U8.utf t.data.toList = false):=by
       show _ = _
       have hm:U8.may 128 v = false:=by simp [U8.may];omega
       have ho:=U8.one_may hla HK.out HE.out
       rw [hm] at ho
       rw [HU.out]
       exact U8.utf_bad hne ho
      clear HI HE HK HU
      go_wp2
      go_ret
      exact ⟨by rw [HB.out];rfl,rfl⟩
     have q2':¬ (1114111:Int) < (v:Int):=by omega
     by_cases q3:55296 ≤ v
     ·have q3':(55296:Int) ≤ (v:Int):=by omega
      by_cases q4:v ≤ 57343
      ·have q4':(v:Int) ≤ 57343:=by omega
       have HB:Hid (U8.utf t.data.toList = false):=by
        show _ = _
        have hm:U8.may 128 v = false:=by simp [U8.may];omega
        have ho:=U8.one_may hla HK.out HE.out
        rw [hm] at ho
        rw [HU.out]
        exact U8.utf_bad hne ho
       clear HI HE HK HU
       go_wp2
       go_ret
       exact ⟨by rw [HB.out];rfl,rfl⟩
      have q4':¬ (v:Int) ≤ 57343:=by omega
      have HG:Hid (U8.utf t.data.toList = U8.utf (t.data.toList.drop (a + 2)) ∧ a + 2 ≤ t.size):=by
       have hm:U8.may 128 v = true:=by simp [U8.may];omega
       have ho:=U8.one_may hla HK.out HE.out
       rw [hm,if_pos rfl] at ho
       have hlen:=(U8.one_len ho).2
       rw [List.length_drop,hll] at hlen
       refine ⟨?_,by omega⟩
       rw [HU.out,U8.utf_step ho,List.drop_drop]
      clear HI HE HK HU
      go_wp2
      go_round
      case rel => exact ⟨a + 2,HG.out.2,by go_num,HG.out.1⟩
      case measure => simp [intOf];omega
     have q3':¬ (55296:Int) ≤ (v:Int):=by omega
     have HG:Hid (U8.utf t.data.toList = U8.utf (t.data.toList.drop (a + 2)) ∧ a + 2 ≤ t.size):=by
      have hm:U8.may 128 v = true:=by simp [U8.may];omega
      have ho:=U8.one_may hla HK.out HE.out
      rw [hm,if_pos rfl] at ho
      have hlen:=(U8.one_len ho).2
      rw [List.length_drop,hll] at hlen
      refine ⟨?_,by omega⟩
      rw [HU.out,U8.utf_step ho,List.drop_drop]
     clear HI HE HK HU
     go_wp2
     go_round
     case rel => exact ⟨a + 2,HG.out.2,by go_num,HG.out.1⟩
     case measure => simp [intOf];omega
   by_cases k3:224 ≤ t[a].toNat ∧ t[a].toNat < 240
   ·obtain ⟨k3a,k3b⟩:=k3
    have k2a':(192:Int) ≤ (t[a].toNat:Int):=by omega
    have k2b':¬ (t[a].toNat:Int) < 224:=by omega
    have k3a':(224:Int) ≤ (t[a].toNat:Int):=by omega
    have k3b':(t[a].toNat:Int) < 240:=by omega
    have HK:Hid (U8.kind t.data.toList[a].toNat = some (3,t[a].toNat - 224,2048)):=by
     show _ = _
     rw [text_get t a hlt]
     unfold U8.kind
     rw [if_neg (by omega),if_neg (by omega),if_pos (by omega)]
    have hsub:((t[a].toNat:Int) - 224) = ((t[a].toNat - 224:Nat):Int):=by omega
    have HI0:=Lib.hid (U8.in_start t.data.toList a 3 (t[a].toNat - 224) (by omega))
    go_wp2
    go_loop [4,7] (fun v4 v7 => ∃ i v:Nat,1 ≤ i ∧ i ≤ 3 ∧ v4 = .int .i64 v ∧ v7 = .int .i64 i ∧ Hid (U8.Inner t.data.toList a 3 (t[a].toNat - 224) i v)) (fun _ v7 => 3 - (intOf v7).toNat)
    case atStart => exact ⟨1,t[a].toNat - 224,by omega,by omega,by go_num,rfl,HI0.out⟩
    case round =>
     obtain ⟨i,v,hi1,hin,rfl,rfl,HI⟩:=hrel
     clear HI0
     by_cases hi:i < 3
     ·have hi':(i:Int) < 3:=by omega
      have hv3:=HI.out.2.2.2.1 (by omega)
      by_cases hs:t.size ≤ a + i
      ·have hs':(t.size:Int) ≤ (a:Int) + (i:Int):=by omega
       have HB:Hid (U8.utf t.data.toList = false):=by
        show _ = _
        rw [HU.out]
        exact U8.utf_bad hne (U8.one_none hla HK.out (U8.in_short HI.out hi (by omega)))
       clear HI HK HU
       go_wp2
       go_ret
       exact ⟨by rw [HB.out];rfl,rfl⟩
      have hs':¬ (t.size:Int) ≤ (a:Int) + (i:Int):=by omega
      have hs2:a + i < t.size:=by omega
      have hs3:(a:Int) + (i:Int) < (t.size:Int):=by omega
      have hte:=text_get t (a + i) hs2
      by_cases hb:128 ≤ t[a + i].toNat ∧ t[a + i].toNat < 192
      ·have HN:=Lib.hid (U8.in_next HI.out hi1 hi (by omega) (by omega) (by rw [hte];exact hb))
       rw [hte] at HN
       obtain ⟨hb1,hb2⟩:=hb
       have hb1':¬ (t[a + i].toNat:Int) < 128:=by omega
       have hb2':¬ (192:Int) ≤ (t[a + i].toNat:Int):=by omega
       clear HI HK HU hte
       go_wp2
       go_round
       case rel => exact ⟨i + 1,_,by omega,by omega,by go_num,by go_num,HN⟩
       case measure => simp [intOf];omega
      ·have HB:Hid (U8.utf t.data.toList = false):=by
        show _ = _
        rw [HU.out]
        exact U8.utf_bad hne (U8.one_none hla HK.out (U8.in_bad HI.out hi (by omega) (by rw [hte];exact hb)))
       clear HI HK HU hte
       by_cases hb1:t[a + i].toNat < 128
       ·have hb1':(t[a + i].toNat:Int) < 128:=by omega
        go_wp2
        go_ret
        exact ⟨by rw [HB.out];rfl,rfl⟩
       ·have hb1':¬ (t[a + i].toNat:Int) < 128:=by omega
        have hb2':(192:Int) ≤ (t[a + i].toNat:Int):=by omega
        go_wp2
        go_ret
        exact ⟨by rw [HB.out];rfl,rfl⟩
     have hii:i = 3:=by omega
     subst hii
     have HE:=Lib.hid (U8.in_end HI.out)
     have hv5:=HI.out.2.2.2.2
     by_cases q1:v < 2048
     ·have q1':(v:Int) < 2048:=by omega
      have HB:Hid (U8.utf t.data.toList = false):=by
       show _ = _
       have hm:U8.may 2048 v = false:=by simp [U8.may];omega
       have ho:=U8.one_may hla HK.out HE.out
       rw [hm] at ho
       rw [HU.out]
       exact U8.utf_bad hne ho
      clear HI HE HK HU
      go_wp2
      go_ret
      exact ⟨by rw [HB.out];rfl,rfl⟩
     have q1':¬ (v:Int) < 2048:=by omega
     by_cases q2:1114111 < v
     ·have q2':(1114111:Int) < (v:Int):=by omega
      have HB:Hid (U8.utf t.data.toList = false):=by
       show _ = _
       have hm:U8.may 2048 v = false:=by simp [U8.may];omega
       have ho:=U8.one_may hla HK.out HE.out
       rw [hm] at ho
       rw [HU.out]
       exact U8.utf_bad hne ho
      clear HI HE HK HU
      go_wp2
      go_ret
      exact ⟨by rw [HB.out];rfl,rfl⟩
     have q2':¬ (1114111:Int) < (v:Int):=by omega
     by_cases q3:55296 ≤ v
     ·have q3':(55296:Int) ≤ (v:Int):=by omega
      by_cases q4:v ≤ 57343
      ·have q4':(v:Int) ≤ 57343:=by omega
       have HB:Hid (U8.utf t.data.toList = false):=by
        show _ = _
        have hm:U8.may 2048 v = false:=by simp [U8.may];omega
        have ho:=U8.one_may hla HK.out HE.out
        rw [hm] at ho
        rw [HU.out]
        exact U8.utf_bad hne ho
       clear HI HE HK HU
       go_wp2
       go_ret
       exact ⟨by rw [HB.out];rfl,rfl⟩
      have q4':¬ (v:Int) ≤ 57343:=by omega
      have HG:Hid (U8.utf t.data.toList = U8.utf (t.data.toList.drop (a + 3)) ∧ a + 3 ≤ t.size):=by
       have hm:U8.may 2048 v = true:=by simp [U8.may];omega
       have ho:=U8.one_may hla HK.out HE.out
       rw [hm,if_pos rfl] at ho
       have hlen:=(U8.one_len ho).2
       rw [List.length_drop,hll] at hlen
       refine ⟨?_,by omega⟩
       rw [HU.out,U8.utf_step ho,List.drop_drop]
      clear HI HE HK HU
      go_wp2
      go_round
      case rel => exact ⟨a + 3,HG.out.2,by go_num,HG.out.1⟩
      case measure => simp [intOf];omega
     have q3':¬ (55296:Int) ≤ (v:Int):=by omega
     have HG:Hid (U8.utf t.data.toList = U8.utf (t.data.toList.drop (a + 3)) ∧ a + 3 ≤ t.size):=by
      have hm:U8.may 2048 v = true:=by simp [U8.may];omega
      have ho:=U8.one_may hla HK.out HE.out
      rw [hm,if_pos rfl] at ho
      have hlen:=(U8.one_len ho).2
      rw [List.length_drop,hll] at hlen
      refine ⟨?_,by omega⟩
      rw [HU.out,U8.utf_step ho,List.drop_drop]
     clear HI HE HK HU
     go_wp2
     go_round
     case rel => exact ⟨a + 3,HG.out.2,by go_num,HG.out.1⟩
     case measure => simp [intOf];omega
   by_cases k4:240 ≤ t[a].toNat ∧ t[a].toNat < 248
   ·obtain ⟨k4a,k4b⟩:=k4
    have k2a':(192:Int) ≤ (t[a].toNat:Int):=by omega
    have k2b':¬ (t[a].toNat:Int) < 224:=by omega
    have k3a':(224:Int) ≤ (t[a].toNat:Int):=by omega
    have k3b':¬ (t[a].toNat:Int) < 240:=by omega
    have k4a':(240:Int) ≤ (t[a].toNat:Int):=by omega
    have k4b':(t[a].toNat:Int) < 248:=by omega
    have HK:Hid (U8.kind t.data.toList[a].toNat = some (4,t[a].toNat - 240,65536)):=by
     show _ = _
     rw [text_get t a hlt]
     unfold U8.kind
     rw [if_neg (by omega),if_neg (by omega),if_neg (by omega),if_pos (by omega)]
    have hsub:((t[a].toNat:Int) - 240) = ((t[a].toNat - 240:Nat):Int):=by omega
    have HI0:=Lib.hid (U8.in_start t.data.toList a 4 (t[a].toNat - 240) (by omega))
    go_wp2
    go_loop [4,7] (fun v4 v7 => ∃ i v:Nat,1 ≤ i ∧ i ≤ 4 ∧ v4 = .int .i64 v ∧ v7 = .int .i64 i ∧ Hid (U8.Inner t.data.toList a 4 (t[a].toNat - 240) i v)) (fun _ v7 => 4 - (intOf v7).toNat)
    case atStart => exact ⟨1,t[a].toNat - 240,by omega,by omega,by go_num,rfl,HI0.out⟩
    case round =>
     obtain ⟨i,v,hi1,hin,rfl,rfl,HI⟩:=hrel
     clear HI0
     by_cases hi:i < 4
     ·have hi':(i:Int) < 4:=by omega
      have hv3:=HI.out.2.2.2.1 (by omega)
      by_cases hs:t.size ≤ a + i
      ·have hs':(t.size:Int) ≤ (a:Int) + (i:Int):=by omega
       have HB:Hid (U8.utf t.data.toList = false):=by
        show _ = _
        rw [HU.out]
        exact U8.utf_bad hne (U8.one_none hla HK.out (U8.in_short HI.out hi (by omega)))
       clear HI HK HU
       go_wp2
       go_ret
       exact ⟨by rw [HB.out];rfl,rfl⟩
      have hs':¬ (t.size:Int) ≤ (a:Int) + (i:Int):=by omega
      have hs2:a + i < t.size:=by omega
      have hs3:(a:Int) + (i:Int) < (t.size:Int):=by omega
      have hte:=text_get t (a + i) hs2
      by_cases hb:128 ≤ t[a + i].toNat ∧ t[a + i].toNat < 192
      ·have HN:=Lib.hid (U8.in_next HI.out hi1 hi (by omega) (by omega) (by rw [hte];exact hb))
       rw [hte] at HN
       obtain ⟨hb1,hb2⟩:=hb
       have hb1':¬ (t[a + i].toNat:Int) < 128:=by omega
       have hb2':¬ (192:Int) ≤ (t[a + i].toNat:Int):=by omega
       clear HI HK HU hte
       go_wp2
       go_round
       case rel => exact ⟨i + 1,_,by omega,by omega,by go_num,by go_num,HN⟩
       case measure => simp [intOf];omega
      ·have HB:Hid (U8.utf t.data.toList = false):=by
        show _ = _
        rw [HU.out]
        exact U8.utf_bad hne (U8.one_none hla HK.out (U8.in_bad HI.out hi (by omega) (by rw [hte];exact hb)))
       clear HI HK HU hte
       by_cases hb1:t[a + i].toNat < 128
       ·have hb1':(t[a + i].toNat:Int) < 128:=by omega
        go_wp2
        go_ret
        exact ⟨by rw [HB.out];rfl,rfl⟩
       ·have hb1':¬ (t[a + i].toNat:Int) < 128:=by omega
        have hb2':(192:Int) ≤ (t[a + i].toNat:Int):=by omega
        go_wp2
        go_ret
        exact ⟨by rw [HB.out];rfl,rfl⟩
     have hii:i = 4:=by omega
     subst hii
     have HE:=Lib.hid (U8.in_end HI.out)
     have hv5:=HI.out.2.2.2.2
     by_cases q1:v < 65536
     ·have q1':(v:Int) < 65536:=by omega
      have HB:Hid (U8.utf t.data.toList = false):=by
       show _ = _
       have hm:U8.may 65536 v = false:=by simp [U8.may];omega
       have ho:=U8.one_may hla HK.out HE.out
       rw [hm] at ho
       rw [HU.out]
       exact U8.utf_bad hne ho
      clear HI HE HK HU
      go_wp2
      go_ret
      exact ⟨by rw [HB.out];rfl,rfl⟩
     have q1':¬ (v:Int) < 65536:=by omega
     by_cases q2:1114111 < v
     ·have q2':(1114111:Int) < (v:Int):=by omega
      have HB:Hid (U8.utf t.data.toList = false):=by
       show _ = _
       have hm:U8.may 65536 v = false:=by simp [U8.may];omega
       have ho:=U8.one_may hla HK.out HE.out
       rw [hm] at ho
       rw [HU.out]
       exact U8.utf_bad hne ho
      clear HI HE HK HU
      go_wp2
      go_ret
      exact ⟨by rw [HB.out];rfl,rfl⟩
     have q2':¬ (1114111:Int) < (v:Int):=by omega
     by_cases q3:55296 ≤ v
     ·have q3':(55296:Int) ≤ (v:Int):=by omega
      by_cases q4:v ≤ 57343
      ·have q4':(v:Int) ≤ 57343:=by omega
       have HB:Hid (U8.utf t.data.toList = false):=by
        show _ = _
        have hm:U8.may 65536 v = false:=by simp [U8.may];omega
        have ho:=U8.one_may hla HK.out HE.out
        rw [hm] at ho
        rw [HU.out]
        exact U8.utf_bad hne ho
       clear HI HE HK HU
       go_wp2
       go_ret
       exact ⟨by rw [HB.out];rfl,rfl⟩
      have q4':¬ (v:Int) ≤ 57343:=by omega
      have HG:Hid (U8.utf t.data.toList = U8.utf (t.data.toList.drop (a + 4)) ∧ a + 4 ≤ t.size):=by
       have hm:U8.may 65536 v = true:=by simp [U8.may];omega
       have ho:=U8.one_may hla HK.out HE.out
       rw [hm,if_pos rfl] at ho
       have hlen:=(U8.one_len ho).2
       rw [List.length_drop,hll] at hlen
       refine ⟨?_,by omega⟩
       rw [HU.out,U8.utf_step ho,List.drop_drop]
      clear HI HE HK HU
      go_wp2
      go_round
      case rel => exact ⟨a + 4,HG.out.2,by go_num,HG.out.1⟩
      case measure => simp [intOf];omega
     have q3':¬ (55296:Int) ≤ (v:Int):=by omega
     have HG:Hid (U8.utf t.data.toList = U8.utf (t.data.toList.drop (a + 4)) ∧ a + 4 ≤ t.size):=by
      have hm:U8.may 65536 v = true:=by simp [U8.may];omega
      have ho:=U8.one_may hla HK.out HE.out
      rw [hm,if_pos rfl] at ho
      have hlen:=(U8.one_len ho).2
      rw [List.length_drop,hll] at hlen
      refine ⟨?_,by omega⟩
      rw [HU.out,U8.utf_step ho,List.drop_drop]
     clear HI HE HK HU
     go_wp2
     go_round
     case rel => exact ⟨a + 4,HG.out.2,by go_num,HG.out.1⟩
     case measure => simp [intOf];omega
   have HB:Hid (U8.utf t.data.toList = false):=by
    show _ = _
    rw [HU.out]
    refine U8.utf_bad hne (U8.one_kind hla ?_)
    rw [text_get t a hlt]
    unfold U8.kind
    rw [if_neg (by omega),if_neg (by omega),if_neg (by omega),if_neg (by omega)]
   clear HU
   by_cases k5:t[a].toNat < 192
   ·have k5':¬ (192:Int) ≤ (t[a].toNat:Int):=by omega
    have k6':¬ (224:Int) ≤ (t[a].toNat:Int):=by omega
    have k7':¬ (240:Int) ≤ (t[a].toNat:Int):=by omega
    go_wp2
    go_ret
    exact ⟨by rw [HB.out];rfl,rfl⟩
   have m1:(192:Int) ≤ (t[a].toNat:Int):=by omega
   have m2:¬ (t[a].toNat:Int) < 224:=by omega
   have m3:(224:Int) ≤ (t[a].toNat:Int):=by omega
   have m4:¬ (t[a].toNat:Int) < 240:=by omega
   have m5:(240:Int) ≤ (t[a].toNat:Int):=by omega
   have m6:¬ (t[a].toNat:Int) < 248:=by omega
   go_wp2
   go_ret
   exact ⟨by rw [HB.out];rfl,rfl⟩
  ·have hii:a = t.size:=by omega
   subst hii
   go_wp2
   go_ret
   refine ⟨?_,rfl⟩
   rw [HU.out,List.drop_eq_nil_of_le (by simp)]
   rfl
end Go.Proofs.YtclhbhhlddbocaaGreatDoor
namespace Go.Proofs.YtclhbhhlddbocaaGreatDoor
open Go.RowKit
end Go.Proofs.YtclhbhhlddbocaaGreatDoor
namespace Go.Proofs.YtclhbhhlddbocaaGreatDoor
open Go.RowKit
def utfT (t:ByteArray):Bool:=U8.utf t.data.toList
def chk (d:Nat) (x:V):Nat:=V.check utfT d x
def chkL (d:Nat) (xs:List V):Nat:=V.checkL utfT d xs
theorem chk_mk (d:Nat) (k i:Int) (b:Nat) (t:ByteArray) (xs:List V):chk d (.mk k i b t xs) = if 4 < d then 62 else if V.ownB k i b t xs.length = false then 60 else if 1024 < t.size then 2 else if 256 < xs.length then 3 else if k = 4 ∧ utfT t = false then 61 else chkL (d + 1) xs:=by
 unfold chk chkL
 rw [V.check_mk]
 rfl
theorem chkL_all (d:Nat):∀ xs:List V,(∀ j (h:j < xs.length),chk d xs[j] = 0) → chkL d xs = 0
 | [],_ => by unfold chkL;rw [V.checkL_nil]
 | x :: r,h => by
  have h0:=h 0 (by simp)
  have hr:=chkL_all d r (fun j hj => h (j + 1) (by simpa using hj))
  unfold chk at h0
  unfold chkL at hr ⊢
  simp only [List.getElem_cons_zero] at h0
  rw [V.checkL_cons,if_pos h0,hr]
theorem chkL_at (d:Nat):∀ (xs:List V) (j:Nat) (hj:j < xs.length),(∀ m (h:m < xs.length),m < j → chk d xs[m] = 0) → chk d xs[j] ≠ 0 → chkL d xs = chk d xs[j]
 | x :: r,0,_,_,hn => by
  unfold chk at hn
  unfold chkL chk
  simp only [List.getElem_cons_zero] at hn ⊢
  rw [V.checkL_cons,if_neg hn]
 | x :: r,j + 1,hj,h,hn => by
  have h0:=h 0 (by simp) (by omega)
  have hr:=chkL_at d r j (by simpa using hj) (fun m hm hmj => by have:=h (m + 1) (by simpa using hm) (by omega);simpa using this) (by simpa using hn)
  unfold chk at h0
  unfold chkL at hr ⊢
  simp only [List.getElem_cons_zero] at h0
  rw [V.checkL_cons,if_pos h0,hr]
  rfl
end Go.Proofs.YtclhbhhlddbocaaGreatDoor
namespace Go.Proofs.YtclhbhhlddbocaaGreatDoor
theorem fixB_idem (b:Nat):fixB (fixB b) = fixB b:=by
 unfold fixB
 by_cases h:nanB b = true
 ·rw [if_pos h]
  kernel_rfl
 ·rw [if_neg h,if_neg h]
theorem map_eq_of {xs:List V} {f g:V → V} (h:∀ x ∈ xs,f x = g x):xs.map f = xs.map g:=List.map_congr_left h
theorem fix_idem:∀ x:V,V.fix (V.fix x) = V.fix x:=by
 intro x
 refine V.ind (P:=fun x => V.fix (V.fix x) = V.fix x) ?_ x
 intro k i b t xs ih
 rw [V.fix_mk,V.fix_mk,fixB_idem,V.fixL_eq,V.fixL_eq,List.map_map]
 congr 1
 exact map_eq_of ih
theorem same_iff:∀ x y:V,V.same x y = true ↔ V.fix x = V.fix y:=by
 intro x
 refine V.ind (P:=fun x => ∀ y,V.same x y = true ↔ V.fix x = V.fix y) ?_ x
 intro k i b t xs ih y
 have hL:∀ (xs ys:List V),(∀ x ∈ xs,∀ y,V.same x y = true ↔ V.fix x = V.fix y) → (V.sameL xs ys = true ↔ xs.map V.fix = ys.map V.fix):=by
  intro xs
  induction xs with
  | nil => intro ys _;cases ys <;> simp [V.sameL_nil,V.sameL_nc]
  | cons x r ihr =>
   intro ys hx
   cases ys with
   | nil => simp [V.sameL_cn]
   | cons y s =>
    simp only [V.sameL_cons,Bool.and_eq_true,List.map_cons,List.cons.injEq]
    rw [hx x (by simp) y,ihr s (fun z hz => hx z (by simp [hz]))]
 obtain ⟨k',i',b',t',ys⟩:=y
 rw [V.same_mk,V.fix_mk,V.fix_mk,V.fixL_eq,V.fixL_eq]
 simp only [Bool.and_eq_true,beq_iff_eq,decide_eq_true_eq,V.mk.injEq]
 rw [hL xs ys ih]
 constructor
 ·rintro ⟨⟨⟨⟨h1,h2⟩,h3⟩,h4⟩,h5⟩;exact ⟨h1,h2,h4,h3,h5⟩
 ·rintro ⟨h1,h2,h3,h4,h5⟩;exact ⟨⟨⟨⟨h1,h2⟩,h4⟩,h3⟩,h5⟩
end Go.Proofs.YtclhbhhlddbocaaGreatDoor
