import Derived.Test.YtlgfdgdlaahpfaaGreatDoorB04
set_option maxRecDepth 100000
set_option maxHeartbeats 1000000
namespace Go.Proofs.YtlgfdgdlaahpfaaGreatDoor
section
open Go.RowKit
def Leb.Putting(n:Nat)(xs:L8)(m:Nat):Prop:=xs.length<=9∧m<2*128 ^ (9-xs.length)∧Leb.put n=xs++Leb.putF (10-xs.length) m
theorem Leb.putting_start{n:Nat}(h:n<18446744073709551616):Leb.Putting n [] n:=by
 have e:2*128 ^ 9=18446744073709551616:=by decide
 exact⟨by simp,by simpa[e] using h,rfl⟩
theorem Leb.putting_next{n:Nat}{xs:L8}{m:Nat}(h:Leb.Putting n xs m)(hm:127<m):Leb.Putting n (xs++[UInt8.ofNat (m % 128+128)]) (m / 128):=by
 obtain⟨h1,h2,h3⟩:=h
 have h4:xs.length<=8:=by
  rcases Nat.lt_or_ge 8 xs.length with h5 | h5
  ·have:9-xs.length=0:=by omega
   rw[this] at h2
   simp at h2
   omega
  ·exact h5
 refine⟨by simp;omega,?_,?_⟩
 ·have e:9-xs.length=(9-(xs++[UInt8.ofNat (m % 128+128)]).length)+1:=by simp;omega
  rw[e,Nat.pow_succ] at h2
  rw[Nat.div_lt_iff_lt_mul (by omega)]
  omega
 ·have e:10-xs.length=(10-(xs++[UInt8.ofNat (m % 128+128)]).length)+1:=by simp;omega
  rw[h3,e,Leb.putF,if_neg (by omega),List.append_assoc]
  rfl
theorem Leb.putting_last{n:Nat}{xs:L8}{m:Nat}(h:Leb.Putting n xs m)(hm:m<=127):xs++[UInt8.ofNat m]=Leb.put n:=by
 obtain⟨h1,h2,h3⟩:=h
 have e:10-xs.length=(9-xs.length)+1:=by omega
 rw[h3,e,Leb.putF,if_pos (by omega)]
theorem cA(n:Nat)(hn:n<18446744073709551616)(w:World):
  Calls Tryz.prog 100 #[.int .u64 n] w fun e w'=>∃g cap,e=.returned (.slice (some ⟨g,0,none⟩) (Leb.put n).length cap)∧bh w' w.1.size g cap (Leb.put n)∧Below w.1.size w w':=by
 have HP:=vQ (Leb.putting_start hn)
 go_enter Tryz.func100,Tryz.ntmps100
 go_wp2
 go_loopw [0,3] (fun v0 v3 wr=>∃(m:Nat) (xs:L8),v0=.int .u64 m∧m<18446744073709551616∧xs.length<=9∧Hid (Leb.Putting n xs m∧Has wr w.1.size v3 xs∧Below w.1.size w wr)) (fun v0 _ _=>(intOf v0).toNat)
 case atStart=>exact⟨n,[],rfl,hn,by simp,HP.out,aR _ _,vZ⟩
 case round=>
  obtain⟨m,xs,rfl,hm,hx,HK⟩:=hrel
  have hB:=HK.out.2.2.size
  have HO:=vQ HK.out.2.1
  by_cases hgt:127<m
  ·have hcn:=Leb.byte_high m
   have HN:=vQ (Leb.putting_next HK.out.1 hgt)
   generalize UInt8.ofNat (m % 128+128)=c at hcn HN
   go_wp2_with (at_builtin;refine aV HO.out c (by omega) hB (by omega) rfl rfl rfl rfl rfl ?_;intro g cap W hmine hb)
   go_roundw
   case rel=>exact⟨m / 128,xs++[c],by go_num,by omega,by have:=HN.out.1;exact this,HN.out,by have:=hmine.has;simpa using this,HK.out.2.2.trans hb⟩
   case measure=>simp[intOf];omega
  ·have hcn:=Leb.byte_low m (by omega)
   have HN:=vQ (Leb.putting_last HK.out.1 (by omega))
   generalize UInt8.ofNat m=c at hcn HN
   go_wp2_with (at_builtin;refine aV HO.out c (by omega) hB (by omega) rfl rfl rfl rfl rfl ?_;intro g cap W hmine hb)
   go_ret
   refine⟨g,cap,?_,?_,HK.out.2.2.trans hb⟩
   ·rw[<-HN.out];simp
   ·rw[<-HN.out];exact hmine
theorem lQ(n:Int)(h1:-9223372036854775808<=n)(h2:n<=9223372036854775807)(w:World):
  Calls Tryz.prog 133 #[.int .i64 n] w fun e w'=>e=.returned (.int .u64 (Leb.zig n:Nat))∧w'=w:=by
 by_cases h0:0<=n
 ·have HE:Hid (((Leb.zig n:Nat):Int)=2*n):=by
   show _=_
   unfold Leb.zig
   rw[if_pos h0];omega
  go_enter Tryz.func133,Tryz.ntmps133
  go_wp2
  go_ret
  exact⟨by rw[HE.out];rfl,rfl⟩
 ·have HE:Hid (((Leb.zig n:Nat):Int)=2*(-(n+1))+1):=by
   show _=_
   unfold Leb.zig
   rw[if_neg h0];omega
  go_enter Tryz.func133,Tryz.ntmps133
  go_wp2
  go_ret
  exact⟨by rw[HE.out];go_num,rfl⟩
end
section
open Go.RowKit
def gw(l:L8)(a:Int):Value:=.tuple #[.int .u64 ((Leb.getAt l a).n:Nat),.int .i64 (Leb.nextAt l a),.int .i64 ((Leb.getAt l a).err:Nat)]
theorem kX(l:L8)(a:Int)(h:a<0∨(l.length:Int)<=a):gw l a=.tuple #[.int .u64 0,.int .i64 0,.int .i64 30]:=by
 have e:Leb.getAt l a=⟨30,0,0⟩:=by
  unfold Leb.getAt
  by_cases h0:a<0
  ·rw[if_pos h0]
  ·rw[if_neg h0,List.drop_eq_nil_of_le (by omega)];rfl
 unfold gw Leb.nextAt
 rw[e];rfl
theorem im(l:L8)(a:Nat)(c:Nat)(hc:c≠0)(h:Leb.get (l.drop a)=⟨c,0,0⟩):gw l a=.tuple #[.int .u64 0,.int .i64 0,.int .i64 c]:=by
 have e:Leb.getAt l a=⟨c,0,0⟩:=by
  unfold Leb.getAt
  rw[if_neg (by omega)]
  exact h
 unfold gw Leb.nextAt
 rw[e,if_neg hc];rfl
theorem sy(l:L8)(a n k:Nat)(h:Leb.get (l.drop a)=⟨0,n,k⟩):gw l a=.tuple #[.int .u64 n,.int .i64 ((a:Int)+k),.int .i64 0]:=by
 have e:Leb.getAt l a=⟨0,n,k⟩:=by
  unfold Leb.getAt
  rw[if_neg (by omega)]
  exact h
 unfold gw Leb.nextAt
 rw[e,if_pos rfl];rfl
end
section
open Go.RowKit
theorem bD(t:ByteArray)(i:Nat)(h:i<t.size):t.data.toList[i]'(by simpa using h)=t[i]:=by rw[Array.getElem_toList];rfl
theorem rZ(t:ByteArray)(ht:t.size<=281474976702464)(w:World):Calls Tryz.prog 159 #[.string t] w fun e w'=>e=.returned (.bool (U8.utf t.data.toList))∧w'=w:=by
 go_enter Tryz.func159,Tryz.ntmps159
 go_wp2
 go_loop [3,4,5,6,7,16,19,28,37] (fun v3 _ _ _ _ _ _ _ _=>∃a:Nat,a<=t.size∧v3=.int .i64 a∧Hid (U8.utf t.data.toList=U8.utf (t.data.toList.drop a))) (fun v3 _ _ _ _ _ _ _ _=>t.size-(intOf v3).toNat)
 case atStart=>exact⟨0,by omega,rfl,rfl⟩
 case round=>
  obtain⟨a,ha,rfl,HU⟩:=hrel
  by_cases hlt:a<t.size
  ·have hlt':(a:Int)<(t.size:Int):=by omega
   have hc2:=t[a].toNat_lt
   have hll:t.data.toList.length=t.size:=by simp
   have hla:a<t.data.toList.length:=by omega
   have hne:t.data.toList.drop a≠[]:=by
    intro hc
    have:=congrArg List.length hc
    rw[List.length_drop] at this
    simp at this
    omega
   by_cases k1:t[a].toNat<128
   ·have k1':(t[a].toNat:Int)<128:=by omega
    have HK:Hid (U8.kind t.data.toList[a].toNat=some (1,t[a].toNat-0,0)):=by
     show _=_
     rw[bD t a hlt]
     unfold U8.kind
     rw[if_pos (by omega),Nat.sub_zero]
    have hsub:((t[a].toNat:Int)-0)=((t[a].toNat-0:Nat):Int):=by omega
    have HI0:=vQ (U8.in_start t.data.toList a 1 (t[a].toNat-0) (by omega))
    go_wp2
    go_loop [4,7] (fun v4 v7=>∃i v:Nat,1<=i∧i<=1∧v4=.int .i64 v∧v7=.int .i64 i∧Hid (U8.Inner t.data.toList a 1 (t[a].toNat-0) i v)) (fun _ v7=>1-(intOf v7).toNat)
    case atStart=>exact⟨1,t[a].toNat-0,by omega,by omega,rfl,rfl,HI0.out⟩
    case round=>
     obtain⟨i,v,hi1,hin,rfl,rfl,HI⟩:=hrel
     clear HI0
     have hii:i=1:=by omega
     subst hii
     have HE:=vQ (U8.in_end HI.out)
     have hv5:=HI.out.2.2.2.2
     by_cases q2:1114111<v
     ·have q2':(1114111:Int)<(v:Int):=by omega
      have HB:Hid (U8.utf t.data.toList=false):=by
       show _=_
       have hm:U8.may 0 v=false:=by simp[U8.may];omega
       have ho:=U8.one_may hla HK.out HE.out
       rw[hm] at ho
       rw[HU.out]
       exact U8.utf_bad hne ho
      clear HI HE HK HU
      go_wp2
      go_ret
      exact⟨by rw[HB.out];rfl,rfl⟩
     have q2':¬(1114111:Int)<(v:Int):=by omega
     by_cases q3:55296<=v
     ·have q3':(55296:Int)<=(v:Int):=by omega
      by_cases q4:v<=57343
      ·have q4':(v:Int)<=57343:=by omega
       have HB:Hid (U8.utf t.data.toList=false):=by
        show _=_
        have hm:U8.may 0 v=false:=by simp[U8.may];omega
        have ho:=U8.one_may hla HK.out HE.out
        rw[hm] at ho
        rw[HU.out]
        exact U8.utf_bad hne ho
       clear HI HE HK HU
       go_wp2
       go_ret
       exact⟨by rw[HB.out];rfl,rfl⟩
      have q4':¬(v:Int)<=57343:=by omega
      have HG:Hid (U8.utf t.data.toList=U8.utf (t.data.toList.drop (a+1))∧a+1<=t.size):=by
       have hm:U8.may 0 v=true:=by simp[U8.may];omega
       have ho:=U8.one_may hla HK.out HE.out
       rw[hm,if_pos rfl] at ho
       have hlen:=(U8.one_len ho).2
       rw[List.length_drop,hll] at hlen
       refine⟨?_,by omega⟩
       rw[HU.out,U8.utf_step ho,List.drop_drop]
      clear HI HE HK HU
      go_wp2
      go_round
      case rel=>exact⟨a+1,HG.out.2,by go_num,HG.out.1⟩
      case measure=>simp[intOf];omega
     have q3':¬(55296:Int)<=(v:Int):=by omega
     have HG:Hid (U8.utf t.data.toList=U8.utf (t.data.toList.drop (a+1))∧a+1<=t.size):=by
      have hm:U8.may 0 v=true:=by simp[U8.may];omega
      have ho:=U8.one_may hla HK.out HE.out
      rw[hm,if_pos rfl] at ho
      have hlen:=(U8.one_len ho).2
      rw[List.length_drop,hll] at hlen
      refine⟨?_,by omega⟩
      rw[HU.out,U8.utf_step ho,List.drop_drop]
     clear HI HE HK HU
     go_wp2
     go_round
     case rel=>exact⟨a+1,HG.out.2,by go_num,HG.out.1⟩
     case measure=>simp[intOf];omega
   have k1':¬(t[a].toNat:Int)<128:=by omega
   by_cases k2:192<=t[a].toNat∧t[a].toNat<224
   ·obtain⟨k2a,k2b⟩:=k2
    have k2a':(192:Int)<=(t[a].toNat:Int):=by omega
    have k2b':(t[a].toNat:Int)<224:=by omega
    have HK:Hid (U8.kind t.data.toList[a].toNat=some (2,t[a].toNat-192,128)):=by
     show _=_
     rw[bD t a hlt]
     unfold U8.kind
     rw[if_neg (by omega),if_pos (by omega)]
    have hsub:((t[a].toNat:Int)-192)=((t[a].toNat-192:Nat):Int):=by omega
    have HI0:=vQ (U8.in_start t.data.toList a 2 (t[a].toNat-192) (by omega))
    go_wp2
    go_loop [4,7] (fun v4 v7=>∃i v:Nat,1<=i∧i<=2∧v4=.int .i64 v∧v7=.int .i64 i∧Hid (U8.Inner t.data.toList a 2 (t[a].toNat-192) i v)) (fun _ v7=>2-(intOf v7).toNat)
    case atStart=>exact⟨1,t[a].toNat-192,by omega,by omega,by go_num,rfl,HI0.out⟩
    case round=>
     obtain⟨i,v,hi1,hin,rfl,rfl,HI⟩:=hrel
     clear HI0
     by_cases hi:i<2
     ·have hi':(i:Int)<2:=by omega
      have hv3:=HI.out.2.2.2.1 (by omega)
      by_cases hs:t.size<=a+i
      ·have hs':(t.size:Int)<=(a:Int)+(i:Int):=by omega
       have HB:Hid (U8.utf t.data.toList=false):=by
        show _=_
        rw[HU.out]
        exact U8.utf_bad hne (U8.one_none hla HK.out (U8.in_short HI.out hi (by omega)))
       clear HI HK HU
       go_wp2
       go_ret
       exact⟨by rw[HB.out];rfl,rfl⟩
      have hs':¬(t.size:Int)<=(a:Int)+(i:Int):=by omega
      have hs2:a+i<t.size:=by omega
      have hs3:(a:Int)+(i:Int)<(t.size:Int):=by omega
      have hte:=bD t (a+i) hs2
      by_cases hb:128<=t[a+i].toNat∧t[a+i].toNat<192
      ·have HN:=vQ (U8.in_next HI.out hi1 hi (by omega) (by omega) (by rw[hte];exact hb))
       rw[hte] at HN
       obtain⟨hb1,hb2⟩:=hb
       have hb1':¬(t[a+i].toNat:Int)<128:=by omega
       have hb2':¬(192:Int)<=(t[a+i].toNat:Int):=by omega
       clear HI HK HU hte
       go_wp2
       go_round
       case rel=>exact⟨i+1,_,by omega,by omega,by go_num,by go_num,HN⟩
       case measure=>simp[intOf];omega
      ·have HB:Hid (U8.utf t.data.toList=false):=by
        show _=_
        rw[HU.out]
        exact U8.utf_bad hne (U8.one_none hla HK.out (U8.in_bad HI.out hi (by omega) (by rw[hte];exact hb)))
       clear HI HK HU hte
       by_cases hb1:t[a+i].toNat<128
       ·have hb1':(t[a+i].toNat:Int)<128:=by omega
        go_wp2
        go_ret
        exact⟨by rw[HB.out];rfl,rfl⟩
       ·have hb1':¬(t[a+i].toNat:Int)<128:=by omega
        have hb2':(192:Int)<=(t[a+i].toNat:Int):=by omega
        go_wp2
        go_ret
        exact⟨by rw[HB.out];rfl,rfl⟩
     have hii:i=2:=by omega
     subst hii
     have HE:=vQ (U8.in_end HI.out)
     have hv5:=HI.out.2.2.2.2
     by_cases q1:v<128
     ·have q1':(v:Int)<128:=by omega
      have HB:Hid (U8.utf t.data.toList=false):=by
       show _=_
       have hm:U8.may 128 v=false:=by simp[U8.may];omega
       have ho:=U8.one_may hla HK.out HE.out
       rw[hm] at ho
       rw[HU.out]
       exact U8.utf_bad hne ho
      clear HI HE HK HU
      go_wp2
      go_ret
      exact⟨by rw[HB.out];rfl,rfl⟩
     have q1':¬(v:Int)<128:=by omega
     by_cases q2:1114111<v
     ·have q2':(1114111:Int)<(v:Int):=by omega
      have HB:Hid (U8.utf t.data.toList=false):=by
       show _=_
       have hm:U8.may 128 v=false:=by simp[U8.may];omega
       have ho:=U8.one_may hla HK.out HE.out
       rw[hm] at ho
       rw[HU.out]
       exact U8.utf_bad hne ho
      clear HI HE HK HU
      go_wp2
      go_ret
      exact⟨by rw[HB.out];rfl,rfl⟩
     have q2':¬(1114111:Int)<(v:Int):=by omega
     by_cases q3:55296<=v
     ·have q3':(55296:Int)<=(v:Int):=by omega
      by_cases q4:v<=57343
      ·have q4':(v:Int)<=57343:=by omega
       have HB:Hid (U8.utf t.data.toList=false):=by
        show _=_
        have hm:U8.may 128 v=false:=by simp[U8.may];omega
        have ho:=U8.one_may hla HK.out HE.out
        rw[hm] at ho
        rw[HU.out]
        exact U8.utf_bad hne ho
       clear HI HE HK HU
       go_wp2
       go_ret
       exact⟨by rw[HB.out];rfl,rfl⟩
      have q4':¬(v:Int)<=57343:=by omega
      have HG:Hid (U8.utf t.data.toList=U8.utf (t.data.toList.drop (a+2))∧a+2<=t.size):=by
       have hm:U8.may 128 v=true:=by simp[U8.may];omega
       have ho:=U8.one_may hla HK.out HE.out
       rw[hm,if_pos rfl] at ho
       have hlen:=(U8.one_len ho).2
       rw[List.length_drop,hll] at hlen
       refine⟨?_,by omega⟩
       rw[HU.out,U8.utf_step ho,List.drop_drop]
      clear HI HE HK HU
      go_wp2
      go_round
      case rel=>exact⟨a+2,HG.out.2,by go_num,HG.out.1⟩
      case measure=>simp[intOf];omega
     have q3':¬(55296:Int)<=(v:Int):=by omega
     have HG:Hid (U8.utf t.data.toList=U8.utf (t.data.toList.drop (a+2))∧a+2<=t.size):=by
      have hm:U8.may 128 v=true:=by simp[U8.may];omega
      have ho:=U8.one_may hla HK.out HE.out
      rw[hm,if_pos rfl] at ho
      have hlen:=(U8.one_len ho).2
      rw[List.length_drop,hll] at hlen
      refine⟨?_,by omega⟩
      rw[HU.out,U8.utf_step ho,List.drop_drop]
     clear HI HE HK HU
     go_wp2
     go_round
     case rel=>exact⟨a+2,HG.out.2,by go_num,HG.out.1⟩
     case measure=>simp[intOf];omega
   by_cases k3:224<=t[a].toNat∧t[a].toNat<240
   ·obtain⟨k3a,k3b⟩:=k3
    have k2a':(192:Int)<=(t[a].toNat:Int):=by omega
    have k2b':¬(t[a].toNat:Int)<224:=by omega
    have k3a':(224:Int)<=(t[a].toNat:Int):=by omega
    have k3b':(t[a].toNat:Int)<240:=by omega
    have HK:Hid (U8.kind t.data.toList[a].toNat=some (3,t[a].toNat-224,2048)):=by
     show _=_
     rw[bD t a hlt]
     unfold U8.kind
     rw[if_neg (by omega),if_neg (by omega),if_pos (by omega)]
    have hsub:((t[a].toNat:Int)-224)=((t[a].toNat-224:Nat):Int):=by omega
    have HI0:=vQ (U8.in_start t.data.toList a 3 (t[a].toNat-224) (by omega))
    go_wp2
    go_loop [4,7] (fun v4 v7=>∃i v:Nat,1<=i∧i<=3∧v4=.int .i64 v∧v7=.int .i64 i∧Hid (U8.Inner t.data.toList a 3 (t[a].toNat-224) i v)) (fun _ v7=>3-(intOf v7).toNat)
    case atStart=>exact⟨1,t[a].toNat-224,by omega,by omega,by go_num,rfl,HI0.out⟩
    case round=>
     obtain⟨i,v,hi1,hin,rfl,rfl,HI⟩:=hrel
     clear HI0
     by_cases hi:i<3
     ·have hi':(i:Int)<3:=by omega
      have hv3:=HI.out.2.2.2.1 (by omega)
      by_cases hs:t.size<=a+i
      ·have hs':(t.size:Int)<=(a:Int)+(i:Int):=by omega
       have HB:Hid (U8.utf t.data.toList=false):=by
        show _=_
        rw[HU.out]
        exact U8.utf_bad hne (U8.one_none hla HK.out (U8.in_short HI.out hi (by omega)))
       clear HI HK HU
       go_wp2
       go_ret
       exact⟨by rw[HB.out];rfl,rfl⟩
      have hs':¬(t.size:Int)<=(a:Int)+(i:Int):=by omega
      have hs2:a+i<t.size:=by omega
      have hs3:(a:Int)+(i:Int)<(t.size:Int):=by omega
      have hte:=bD t (a+i) hs2
      by_cases hb:128<=t[a+i].toNat∧t[a+i].toNat<192
      ·have HN:=vQ (U8.in_next HI.out hi1 hi (by omega) (by omega) (by rw[hte];exact hb))
       rw[hte] at HN
       obtain⟨hb1,hb2⟩:=hb
       have hb1':¬(t[a+i].toNat:Int)<128:=by omega
       have hb2':¬(192:Int)<=(t[a+i].toNat:Int):=by omega
       clear HI HK HU hte
       go_wp2
       go_round
       case rel=>exact⟨i+1,_,by omega,by omega,by go_num,by go_num,HN⟩
       case measure=>simp[intOf];omega
      ·have HB:Hid (U8.utf t.data.toList=false):=by
        show _=_
        rw[HU.out]
        exact U8.utf_bad hne (U8.one_none hla HK.out (U8.in_bad HI.out hi (by omega) (by rw[hte];exact hb)))
       clear HI HK HU hte
       by_cases hb1:t[a+i].toNat<128
       ·have hb1':(t[a+i].toNat:Int)<128:=by omega
        go_wp2
        go_ret
        exact⟨by rw[HB.out];rfl,rfl⟩
       ·have hb1':¬(t[a+i].toNat:Int)<128:=by omega
        have hb2':(192:Int)<=(t[a+i].toNat:Int):=by omega
        go_wp2
        go_ret
        exact⟨by rw[HB.out];rfl,rfl⟩
     have hii:i=3:=by omega
     subst hii
     have HE:=vQ (U8.in_end HI.out)
     have hv5:=HI.out.2.2.2.2
     by_cases q1:v<2048
     ·have q1':(v:Int)<2048:=by omega
      have HB:Hid (U8.utf t.data.toList=false):=by
       show _=_
       have hm:U8.may 2048 v=false:=by simp[U8.may];omega
       have ho:=U8.one_may hla HK.out HE.out
       rw[hm] at ho
       rw[HU.out]
       exact U8.utf_bad hne ho
      clear HI HE HK HU
      go_wp2
      go_ret
      exact⟨by rw[HB.out];rfl,rfl⟩
     have q1':¬(v:Int)<2048:=by omega
     by_cases q2:1114111<v
     ·have q2':(1114111:Int)<(v:Int):=by omega
      have HB:Hid (U8.utf t.data.toList=false):=by
       show _=_
       have hm:U8.may 2048 v=false:=by simp[U8.may];omega
       have ho:=U8.one_may hla HK.out HE.out
       rw[hm] at ho
       rw[HU.out]
       exact U8.utf_bad hne ho
      clear HI HE HK HU
      go_wp2
      go_ret
      exact⟨by rw[HB.out];rfl,rfl⟩
     have q2':¬(1114111:Int)<(v:Int):=by omega
     by_cases q3:55296<=v
     ·have q3':(55296:Int)<=(v:Int):=by omega
      by_cases q4:v<=57343
      ·have q4':(v:Int)<=57343:=by omega
       have HB:Hid (U8.utf t.data.toList=false):=by
        show _=_
        have hm:U8.may 2048 v=false:=by simp[U8.may];omega
        have ho:=U8.one_may hla HK.out HE.out
        rw[hm] at ho
        rw[HU.out]
        exact U8.utf_bad hne ho
       clear HI HE HK HU
       go_wp2
       go_ret
       exact⟨by rw[HB.out];rfl,rfl⟩
      have q4':¬(v:Int)<=57343:=by omega
      have HG:Hid (U8.utf t.data.toList=U8.utf (t.data.toList.drop (a+3))∧a+3<=t.size):=by
       have hm:U8.may 2048 v=true:=by simp[U8.may];omega
       have ho:=U8.one_may hla HK.out HE.out
       rw[hm,if_pos rfl] at ho
       have hlen:=(U8.one_len ho).2
       rw[List.length_drop,hll] at hlen
       refine⟨?_,by omega⟩
       rw[HU.out,U8.utf_step ho,List.drop_drop]
      clear HI HE HK HU
      go_wp2
      go_round
      case rel=>exact⟨a+3,HG.out.2,by go_num,HG.out.1⟩
      case measure=>simp[intOf];omega
     have q3':¬(55296:Int)<=(v:Int):=by omega
     have HG:Hid (U8.utf t.data.toList=U8.utf (t.data.toList.drop (a+3))∧a+3<=t.size):=by
      have hm:U8.may 2048 v=true:=by simp[U8.may];omega
      have ho:=U8.one_may hla HK.out HE.out
      rw[hm,if_pos rfl] at ho
      have hlen:=(U8.one_len ho).2
      rw[List.length_drop,hll] at hlen
      refine⟨?_,by omega⟩
      rw[HU.out,U8.utf_step ho,List.drop_drop]
     clear HI HE HK HU
     go_wp2
     go_round
     case rel=>exact⟨a+3,HG.out.2,by go_num,HG.out.1⟩
     case measure=>simp[intOf];omega
   by_cases k4:240<=t[a].toNat∧t[a].toNat<248
   ·obtain⟨k4a,k4b⟩:=k4
    have k2a':(192:Int)<=(t[a].toNat:Int):=by omega
    have k2b':¬(t[a].toNat:Int)<224:=by omega
    have k3a':(224:Int)<=(t[a].toNat:Int):=by omega
    have k3b':¬(t[a].toNat:Int)<240:=by omega
    have k4a':(240:Int)<=(t[a].toNat:Int):=by omega
    have k4b':(t[a].toNat:Int)<248:=by omega
    have HK:Hid (U8.kind t.data.toList[a].toNat=some (4,t[a].toNat-240,65536)):=by
     show _=_
     rw[bD t a hlt]
     unfold U8.kind
     rw[if_neg (by omega),if_neg (by omega),if_neg (by omega),if_pos (by omega)]
    have hsub:((t[a].toNat:Int)-240)=((t[a].toNat-240:Nat):Int):=by omega
    have HI0:=vQ (U8.in_start t.data.toList a 4 (t[a].toNat-240) (by omega))
    go_wp2
    go_loop [4,7] (fun v4 v7=>∃i v:Nat,1<=i∧i<=4∧v4=.int .i64 v∧v7=.int .i64 i∧Hid (U8.Inner t.data.toList a 4 (t[a].toNat-240) i v)) (fun _ v7=>4-(intOf v7).toNat)
    case atStart=>exact⟨1,t[a].toNat-240,by omega,by omega,by go_num,rfl,HI0.out⟩
    case round=>
     obtain⟨i,v,hi1,hin,rfl,rfl,HI⟩:=hrel
     clear HI0
     by_cases hi:i<4
     ·have hi':(i:Int)<4:=by omega
      have hv3:=HI.out.2.2.2.1 (by omega)
      by_cases hs:t.size<=a+i
      ·have hs':(t.size:Int)<=(a:Int)+(i:Int):=by omega
       have HB:Hid (U8.utf t.data.toList=false):=by
        show _=_
        rw[HU.out]
        exact U8.utf_bad hne (U8.one_none hla HK.out (U8.in_short HI.out hi (by omega)))
       clear HI HK HU
       go_wp2
       go_ret
       exact⟨by rw[HB.out];rfl,rfl⟩
      have hs':¬(t.size:Int)<=(a:Int)+(i:Int):=by omega
      have hs2:a+i<t.size:=by omega
      have hs3:(a:Int)+(i:Int)<(t.size:Int):=by omega
      have hte:=bD t (a+i) hs2
      by_cases hb:128<=t[a+i].toNat∧t[a+i].toNat<192
      ·have HN:=vQ (U8.in_next HI.out hi1 hi (by omega) (by omega) (by rw[hte];exact hb))
       rw[hte] at HN
       obtain⟨hb1,hb2⟩:=hb
       have hb1':¬(t[a+i].toNat:Int)<128:=by omega
       have hb2':¬(192:Int)<=(t[a+i].toNat:Int):=by omega
       clear HI HK HU hte
       go_wp2
       go_round
       case rel=>exact⟨i+1,_,by omega,by omega,by go_num,by go_num,HN⟩
       case measure=>simp[intOf];omega
      ·have HB:Hid (U8.utf t.data.toList=false):=by
        show _=_
        rw[HU.out]
        exact U8.utf_bad hne (U8.one_none hla HK.out (U8.in_bad HI.out hi (by omega) (by rw[hte];exact hb)))
       clear HI HK HU hte
       by_cases hb1:t[a+i].toNat<128
       ·have hb1':(t[a+i].toNat:Int)<128:=by omega
        go_wp2
        go_ret
        exact⟨by rw[HB.out];rfl,rfl⟩
       ·have hb1':¬(t[a+i].toNat:Int)<128:=by omega
        have hb2':(192:Int)<=(t[a+i].toNat:Int):=by omega
        go_wp2
        go_ret
        exact⟨by rw[HB.out];rfl,rfl⟩
     have hii:i=4:=by omega
     subst hii
     have HE:=vQ (U8.in_end HI.out)
     have hv5:=HI.out.2.2.2.2
     by_cases q1:v<65536
     ·have q1':(v:Int)<65536:=by omega
      have HB:Hid (U8.utf t.data.toList=false):=by
       show _=_
       have hm:U8.may 65536 v=false:=by simp[U8.may];omega
       have ho:=U8.one_may hla HK.out HE.out
       rw[hm] at ho
       rw[HU.out]
       exact U8.utf_bad hne ho
      clear HI HE HK HU
      go_wp2
      go_ret
      exact⟨by rw[HB.out];rfl,rfl⟩
     have q1':¬(v:Int)<65536:=by omega
     by_cases q2:1114111<v
     ·have q2':(1114111:Int)<(v:Int):=by omega
      have HB:Hid (U8.utf t.data.toList=false):=by
       show _=_
       have hm:U8.may 65536 v=false:=by simp[U8.may];omega
       have ho:=U8.one_may hla HK.out HE.out
       rw[hm] at ho
       rw[HU.out]
       exact U8.utf_bad hne ho
      clear HI HE HK HU
      go_wp2
      go_ret
      exact⟨by rw[HB.out];rfl,rfl⟩
     have q2':¬(1114111:Int)<(v:Int):=by omega
     by_cases q3:55296<=v
     ·have q3':(55296:Int)<=(v:Int):=by omega
      by_cases q4:v<=57343
      ·have q4':(v:Int)<=57343:=by omega
       have HB:Hid (U8.utf t.data.toList=false):=by
        show _=_
        have hm:U8.may 65536 v=false:=by simp[U8.may];omega
        have ho:=U8.one_may hla HK.out HE.out
        rw[hm] at ho
        rw[HU.out]
        exact U8.utf_bad hne ho
       clear HI HE HK HU
       go_wp2
       go_ret
       exact⟨by rw[HB.out];rfl,rfl⟩
      have q4':¬(v:Int)<=57343:=by omega
      have HG:Hid (U8.utf t.data.toList=U8.utf (t.data.toList.drop (a+4))∧a+4<=t.size):=by
       have hm:U8.may 65536 v=true:=by simp[U8.may];omega
       have ho:=U8.one_may hla HK.out HE.out
       rw[hm,if_pos rfl] at ho
       have hlen:=(U8.one_len ho).2
       rw[List.length_drop,hll] at hlen
       refine⟨?_,by omega⟩
       rw[HU.out,U8.utf_step ho,List.drop_drop]
      clear HI HE HK HU
      go_wp2
      go_round
      case rel=>exact⟨a+4,HG.out.2,by go_num,HG.out.1⟩
      case measure=>simp[intOf];omega
     have q3':¬(55296:Int)<=(v:Int):=by omega
     have HG:Hid (U8.utf t.data.toList=U8.utf (t.data.toList.drop (a+4))∧a+4<=t.size):=by
      have hm:U8.may 65536 v=true:=by simp[U8.may];omega
      have ho:=U8.one_may hla HK.out HE.out
      rw[hm,if_pos rfl] at ho
      have hlen:=(U8.one_len ho).2
      rw[List.length_drop,hll] at hlen
      refine⟨?_,by omega⟩
      rw[HU.out,U8.utf_step ho,List.drop_drop]
     clear HI HE HK HU
     go_wp2
     go_round
     case rel=>exact⟨a+4,HG.out.2,by go_num,HG.out.1⟩
     case measure=>simp[intOf];omega
   have HB:Hid (U8.utf t.data.toList=false):=by
    show _=_
    rw[HU.out]
    refine U8.utf_bad hne (U8.one_kind hla ?_)
    rw[bD t a hlt]
    unfold U8.kind
    rw[if_neg (by omega),if_neg (by omega),if_neg (by omega),if_neg (by omega)]
   clear HU
   by_cases k5:t[a].toNat<192
   ·have k5':¬(192:Int)<=(t[a].toNat:Int):=by omega
    have k6':¬(224:Int)<=(t[a].toNat:Int):=by omega
    have k7':¬(240:Int)<=(t[a].toNat:Int):=by omega
    go_wp2
    go_ret
    exact⟨by rw[HB.out];rfl,rfl⟩
   have m1:(192:Int)<=(t[a].toNat:Int):=by omega
   have m2:¬(t[a].toNat:Int)<224:=by omega
   have m3:(224:Int)<=(t[a].toNat:Int):=by omega
   have m4:¬(t[a].toNat:Int)<240:=by omega
   have m5:(240:Int)<=(t[a].toNat:Int):=by omega
   have m6:¬(t[a].toNat:Int)<248:=by omega
   go_wp2
   go_ret
   exact⟨by rw[HB.out];rfl,rfl⟩
  ·have hii:a=t.size:=by omega
   subst hii
   go_wp2
   go_ret
   refine⟨?_,rfl⟩
   rw[HU.out,List.drop_eq_nil_of_le (by simp)]
   rfl
end
section
open Go.RowKit
theorem pS(i:Int)(b:Nat)(t:ByteArray)(p:OA)(n c:Nat)(w:World):
  Calls Tryz.prog 158 #[.agg #[.int .i64 1,.int .i64 i,.float .f64 b,.string t,.slice p n c]] w fun e w'=>e=.returned (.bool (V.ownB 1 i b t n))∧Below w.1.size w w':=by
 have HB:Hid (∀o,Below w.1.size w (w.alloc o)):=fun o=>vZ.alloc vX o
 go_enter Tryz.func158,Tryz.ntmps158
 go_wp2_with (go_at_call 119;refine(aS b _).mono ?_;rintro e w1 ⟨rfl,hw1⟩;rw[hw1];clear hw1 w1)
 all_goals go_ret
 all_goals refine⟨?_,HB.out _⟩
 all_goals simp_all [V.ownB]
 all_goals omega
theorem pR(i:Int)(b:Nat)(t:ByteArray)(p:OA)(n c:Nat)(w:World):
  Calls Tryz.prog 158 #[.agg #[.int .i64 2,.int .i64 i,.float .f64 b,.string t,.slice p n c]] w fun e w'=>e=.returned (.bool (V.ownB 2 i b t n))∧Below w.1.size w w':=by
 have HB:Hid (∀o,Below w.1.size w (w.alloc o)):=fun o=>vZ.alloc vX o
 go_enter Tryz.func158,Tryz.ntmps158
 go_wp2_with (go_at_call 119;refine(aS b _).mono ?_;rintro e w1 ⟨rfl,hw1⟩;rw[hw1];clear hw1 w1)
 all_goals go_ret
 all_goals refine⟨?_,HB.out _⟩
 all_goals simp_all [V.ownB]
 all_goals omega
theorem pQ(i:Int)(b:Nat)(t:ByteArray)(p:OA)(n c:Nat)(w:World):
  Calls Tryz.prog 158 #[.agg #[.int .i64 3,.int .i64 i,.float .f64 b,.string t,.slice p n c]] w fun e w'=>e=.returned (.bool (V.ownB 3 i b t n))∧Below w.1.size w w':=by
 have HB:Hid (∀o,Below w.1.size w (w.alloc o)):=fun o=>vZ.alloc vX o
 go_enter Tryz.func158,Tryz.ntmps158
 go_wp2_with (go_at_call 119;refine(aS b _).mono ?_;rintro e w1 ⟨rfl,hw1⟩;rw[hw1];clear hw1 w1)
 all_goals go_ret
 all_goals refine⟨?_,HB.out _⟩
 all_goals simp_all [V.ownB]
 all_goals omega
theorem pP(i:Int)(b:Nat)(t:ByteArray)(p:OA)(n c:Nat)(w:World):
  Calls Tryz.prog 158 #[.agg #[.int .i64 4,.int .i64 i,.float .f64 b,.string t,.slice p n c]] w fun e w'=>e=.returned (.bool (V.ownB 4 i b t n))∧Below w.1.size w w':=by
 have HB:Hid (∀o,Below w.1.size w (w.alloc o)):=fun o=>vZ.alloc vX o
 go_enter Tryz.func158,Tryz.ntmps158
 go_wp2_with (go_at_call 119;refine(aS b _).mono ?_;rintro e w1 ⟨rfl,hw1⟩;rw[hw1];clear hw1 w1)
 all_goals go_ret
 all_goals refine⟨?_,HB.out _⟩
 all_goals simp_all [V.ownB]
 all_goals omega
theorem pO(i:Int)(b:Nat)(t:ByteArray)(p:OA)(n c:Nat)(w:World):
  Calls Tryz.prog 158 #[.agg #[.int .i64 5,.int .i64 i,.float .f64 b,.string t,.slice p n c]] w fun e w'=>e=.returned (.bool (V.ownB 5 i b t n))∧Below w.1.size w w':=by
 have HB:Hid (∀o,Below w.1.size w (w.alloc o)):=fun o=>vZ.alloc vX o
 go_enter Tryz.func158,Tryz.ntmps158
 go_wp2_with (go_at_call 119;refine(aS b _).mono ?_;rintro e w1 ⟨rfl,hw1⟩;rw[hw1];clear hw1 w1)
 all_goals go_ret
 all_goals refine⟨?_,HB.out _⟩
 all_goals simp_all [V.ownB]
 all_goals omega
theorem pN(i:Int)(b:Nat)(t:ByteArray)(p:OA)(n c:Nat)(w:World):
  Calls Tryz.prog 158 #[.agg #[.int .i64 6,.int .i64 i,.float .f64 b,.string t,.slice p n c]] w fun e w'=>e=.returned (.bool (V.ownB 6 i b t n))∧Below w.1.size w w':=by
 have HB:Hid (∀o,Below w.1.size w (w.alloc o)):=fun o=>vZ.alloc vX o
 go_enter Tryz.func158,Tryz.ntmps158
 go_wp2_with (go_at_call 119;refine(aS b _).mono ?_;rintro e w1 ⟨rfl,hw1⟩;rw[hw1];clear hw1 w1)
 all_goals go_ret
 all_goals refine⟨?_,HB.out _⟩
 all_goals simp_all [V.ownB]
 all_goals omega
theorem pM(i:Int)(b:Nat)(t:ByteArray)(p:OA)(n c:Nat)(w:World):
  Calls Tryz.prog 158 #[.agg #[.int .i64 7,.int .i64 i,.float .f64 b,.string t,.slice p n c]] w fun e w'=>e=.returned (.bool (V.ownB 7 i b t n))∧Below w.1.size w w':=by
 have HB:Hid (∀o,Below w.1.size w (w.alloc o)):=fun o=>vZ.alloc vX o
 go_enter Tryz.func158,Tryz.ntmps158
 go_wp2_with (go_at_call 119;refine(aS b _).mono ?_;rintro e w1 ⟨rfl,hw1⟩;rw[hw1];clear hw1 w1)
 all_goals go_ret
 all_goals refine⟨?_,HB.out _⟩
 all_goals simp_all [V.ownB]
 all_goals omega
theorem l7(k:Int)(hk:k<1∨7<k)(i:Int)(b:Nat)(t:ByteArray)(p:OA)(n c:Nat)(w:World):
  Calls Tryz.prog 158 #[.agg #[.int .i64 k,.int .i64 i,.float .f64 b,.string t,.slice p n c]] w fun e w'=>e=.returned (.bool (V.ownB k i b t n))∧Below w.1.size w w':=by
 have HB:Hid (∀o,Below w.1.size w (w.alloc o)):=fun o=>vZ.alloc vX o
 have h1:¬k=1:=by omega
 have h2:¬k=2:=by omega
 have h4:¬k=4:=by omega
 have h5:¬k=5:=by omega
 have h6:¬k=6:=by omega
 have h7:¬k=7:=by omega
 go_enter Tryz.func158,Tryz.ntmps158
 go_wp2_with (go_at_call 119;refine(aS b _).mono ?_;rintro e w1 ⟨rfl,hw1⟩;rw[hw1];clear hw1 w1)
 all_goals go_ret
 all_goals refine⟨?_,HB.out _⟩
 all_goals simp_all [V.ownB]
 all_goals omega
theorem r5(k i:Int)(b:Nat)(t:ByteArray)(p:OA)(n c:Nat)(w:World):
  Calls Tryz.prog 158 #[.agg #[.int .i64 k,.int .i64 i,.float .f64 b,.string t,.slice p n c]] w fun e w'=>e=.returned (.bool (V.ownB k i b t n))∧Below w.1.size w w':=by
 by_cases hk:k<1∨7<k
 ·exact l7 k hk i b t p n c w
 ·rcases(show k=1∨k=2∨k=3∨k=4∨k=5∨k=6∨k=7 by omega) with rfl | rfl | rfl | rfl | rfl | rfl | rfl
  ·exact pS i b t p n c w
  ·exact pR i b t p n c w
  ·exact pQ i b t p n c w
  ·exact pP i b t p n c w
  ·exact pO i b t p n c w
  ·exact pN i b t p n c w
  ·exact pM i b t p n c w
end
section
open Go.RowKit
def cR(t:ByteArray):Bool:=U8.utf t.data.toList
def chk(d:Nat)(x:V):Nat:=V.check cR d x
def ei(d:Nat)(xs:List V):Nat:=V.checkL cR d xs
theorem jQ(d:Nat)(k i:Int)(b:Nat)(t:ByteArray)(xs:List V):chk d (.mk k i b t xs)=if 4<d then 62 else if V.ownB k i b t xs.length=false then 60 else if 1024<t.size then 2 else if 256<xs.length then 3 else if k=4∧cR t=false then 61 else ei (d+1) xs:=by
 unfold chk ei
 rw[V.check_mk]
 rfl
theorem eh(d:Nat):∀xs:List V,(∀j (h:j<xs.length),chk d xs[j]=0)->ei d xs=0
 | [],_=>by unfold ei;rw[V.checkL_nil]
 |x::r,h=>by
  have h0:=h 0 (by simp)
  have hr:=eh d r (fun j hj=>h (j+1) (by simpa using hj))
  unfold chk at h0
  unfold ei at hr ⊢
  simp only[List.getElem_cons_zero] at h0
  rw[V.checkL_cons,if_pos h0,hr]
theorem gE(d:Nat):∀(xs:List V) (j:Nat) (hj:j<xs.length),(∀m (h:m<xs.length),m<j->chk d xs[m]=0)->chk d xs[j]≠0->ei d xs=chk d xs[j]
 |x::r,0,_,_,hn=>by
  unfold chk at hn
  unfold ei chk
  simp only[List.getElem_cons_zero] at hn ⊢
  rw[V.checkL_cons,if_neg hn]
 |x::r,j+1,hj,h,hn=>by
  have h0:=h 0 (by simp) (by omega)
  have hr:=gE d r j (by simpa using hj) (fun m hm hmj=>by have:=h (m+1) (by simpa using hm) (by omega);simpa using this) (by simpa using hn)
  unfold chk at h0
  unfold ei at hr ⊢
  simp only[List.getElem_cons_zero] at h0
  rw[V.checkL_cons,if_pos h0,hr]
  rfl
theorem tr:∀(x:V) (d:Nat) (w:World) (u:AV),d<=5->ax w u x->Calls Tryz.prog 131 #[.agg u,.int .i64 d] w fun e w'=>e=.returned (.int .i64 (chk d x:Nat))∧Below w.1.size w w':=by
 intro x
 refine V.ind (P:=fun x=>∀(d:Nat) (w:World) (u:AV),d<=5->ax w u x->Calls Tryz.prog 131 #[.agg u,.int .i64 d] w fun e w'=>e=.returned (.int .i64 (chk d x:Nat))∧Below w.1.size w w') ?_ x
 rintro k i b t xs ih d w u hd hx
 obtain⟨p,c,rfl,hxl,hxc,hxi⟩:=hx.open
 unfold cells5
 have hB1:Below w.1.size w (w.alloc (.cells #[.int .i64 k,.int .i64 i,.float .f64 b,.string t,.slice p xs.length c] 87)):=vY
 have HB1:=vQ hB1
 clear hB1 hx
 have HCk:=vQ (jQ d k i b t xs)
 obtain⟨R,hR⟩:∃R,R=chk d (.mk k i b t xs):=⟨_,rfl⟩
 rw[<-hR] at HCk ⊢
 clear hR
 by_cases h1:4<d
 ·have g1:(4:Int)<(d:Int):=by omega
  have HR:Hid (R=62):=by show _=_;rw[HCk.out,if_pos h1]
  clear ih hxi HCk
  go_enter Tryz.func131,Tryz.ntmps131
  go_wp2
  go_ret
  exact⟨by rw[HR.out];rfl,HB1.out⟩
 have g1:¬(4:Int)<(d:Int):=by omega
 have HO:=vQ (r5 k i b t p xs.length c (w.alloc (.cells #[.int .i64 k,.int .i64 i,.float .f64 b,.string t,.slice p xs.length c] 87)))
 obtain⟨r,hr⟩:∃r,r=V.ownB k i b t xs.length:=⟨_,rfl⟩
 rw[<-hr] at HO
 have HRr:=vQ hr
 clear hr
 have hsz:w.1.size<(w.alloc (.cells #[.int .i64 k,.int .i64 i,.float .f64 b,.string t,.slice p xs.length c] 87)).1.size:=by simp
 have y0:(w.alloc (.cells #[.int .i64 k,.int .i64 i,.float .f64 b,.string t,.slice p xs.length c] 87)).cell? ⟨w.1.size,0,none⟩=some (.int .i64 k):=by simp
 have y3:(w.alloc (.cells #[.int .i64 k,.int .i64 i,.float .f64 b,.string t,.slice p xs.length c] 87)).cell? ⟨w.1.size,3,none⟩=some (.string t):=by simp
 have y4:(w.alloc (.cells #[.int .i64 k,.int .i64 i,.float .f64 b,.string t,.slice p xs.length c] 87)).cell? ⟨w.1.size,4,none⟩=some (.slice p xs.length c):=by simp
 have Y:=vQ (And.intro y0 (And.intro y3 y4))
 clear y0 y3 y4
 have HX:Hid (∀j (hj:j<xs.length),∃u',ax w u' xs[j]∧Item w p j u'):=hxi
 have HIH:=vQ ih
 clear ih hxi
 go_enter Tryz.func131,Tryz.ntmps131
 go_wp2_with fail
 refine HO.out.mono ?_
 rintro e w2 ⟨rfl,hb2⟩
 have c0:=ab hb2 Y.out.1
 have c3:=ab hb2 Y.out.2.1
 have c4:=ab hb2 Y.out.2.2
 have HB2:=vQ (HB1.out.trans (hb2.mono HB1.out.size))
 have hs2:w.1.size<w2.1.size:=by have:=hb2.size;omega
 clear hb2 HO Y HB1 hsz
 cases r with
 |false=>
  have HR:Hid (R=60):=by show _=_;rw[HCk.out,if_neg h1,if_pos HRr.out.symm]
  clear HCk HRr
  go_wp2
  go_ret
  exact⟨by rw[HR.out];rfl,HB2.out⟩
 |true=>
  have hr0:¬V.ownB k i b t xs.length=false:=by rw[<-HRr.out];simp
  by_cases h2:1024<t.size
  ·have g2:(1024:Int)<(t.size:Int):=by omega
   have HR:Hid (R=2):=by show _=_;rw[HCk.out,if_neg h1,if_neg hr0,if_pos h2]
   clear HCk HRr hr0
   go_wp2
   go_ret
   exact⟨by rw[HR.out];rfl,HB2.out⟩
  have g2:¬(1024:Int)<(t.size:Int):=by omega
  by_cases h3:256<xs.length
  ·have g3:(256:Int)<(xs.length:Int):=by omega
   have HR:Hid (R=3):=by show _=_;rw[HCk.out,if_neg h1,if_neg hr0,if_neg h2,if_pos h3]
   clear HCk HRr hr0
   go_wp2
   go_ret
   exact⟨by rw[HR.out];rfl,HB2.out⟩
  have g3:¬(256:Int)<(xs.length:Int):=by omega
  have HR2:Hid (R=if k=4∧cR t=false then 61 else ei (d+1) xs):=by show _=_;rw[HCk.out,if_neg h1,if_neg hr0,if_neg h2,if_neg h3]
  clear HCk HRr hr0
  -- the items,from any world behind
  have HC:Hid (∀j (hj:j<xs.length) w',Below w.1.size w w'->∀u',ax w u' xs[j]->Calls Tryz.prog 131 #[.agg u',.int .i64 ((d+1:Nat):Int)] w' fun e w''=>e=.returned (.int .i64 (chk (d+1) xs[j]:Nat))∧Below w'.1.size w' w'') :=
   fun j hj w' hb u' hv=>HIH.out _ (List.getElem_mem hj) (d+1) w' u' (by omega) (hv.on hb)
  clear HIH
  by_cases h4:k=4
  ·have HA:Hid (cR t=false->R=61):=fun hu=>by rw[HR2.out,if_pos ⟨h4,hu⟩]
   have HT:Hid (cR t=true->R=ei (d+1) xs):=fun hu=>by rw[HR2.out,if_neg (fun hc=>by have:=hc.2;rw[hu] at this;cases this)]
   clear HR2
   subst h4
   have hk4:((4:Int)==4)=true:=rfl
   have HUt:=vQ (rZ t (by omega) w2)
   obtain⟨ru,hru⟩:∃ru,ru=cR t:=⟨_,rfl⟩
   have HRu:=vQ hru
   have e1:U8.utf t.data.toList=ru:=hru.symm
   rw[e1] at HUt
   clear hru e1
   go_wp2_with fail
   refine HUt.out.mono ?_
   rintro e w3 ⟨rfl,hw3⟩
   rw[hw3]
   clear hw3 w3 HUt
   cases ru with
   |false=>
    have HR:Hid (R=61):=HA.out HRu.out.symm
    clear HA HT HRu
    go_wp2
    go_ret
    exact⟨by rw[HR.out];rfl,HB2.out⟩
   |true=>
    have HR:Hid (R=ei (d+1) xs):=HT.out HRu.out.symm
    clear HA HT HRu
    go_wp2_with fail
    go_loopw [7,8] (fun v7 _ wr=>∃j:Nat,j<=xs.length∧v7=.int .i64 j∧Hid (Below w2.1.size w2 wr∧∀m (h1:m<xs.length),m<j->chk (d+1) xs[m]=0)) (fun v7 _ _=>xs.length-(intOf v7).toNat)
    case atStart=>exact⟨0,by omega,rfl,vZ,fun m _ h=>by omega⟩
    case round=>
     obtain⟨j,hj,rfl,HL⟩:=hrel
     have n4:wr.cell? ⟨w.1.size,4,none⟩=some (.slice p xs.length c):=ab HL.out.1 c4
     have hbw:Below w.1.size w wr:=HB2.out.trans (HL.out.1.mono (by omega))
     by_cases hlt:j<xs.length
     ·obtain⟨ux,hvx,hix⟩:=HX.out j hlt
      obtain⟨bx,ox,kx,ix,fx,tx,qx,nx,cx,rfl,_,rfl,a0,a1,a2,a3,a4⟩:=(hix.on hbw).lies
      have HCj:=vQ (HC.out j hlt wr hbw _ hvx)
      have hj1:(j:Int)<(xs.length:Int):=by omega
      obtain⟨z,hz⟩:∃z,z=chk (d+1) xs[j]:=⟨_,rfl⟩
      rw[<-hz] at HCj
      have HZz:=vQ hz
      have HBw:=vQ hbw
      unfold cells5 at HCj
      clear hvx hix hz hbw
      go_wp2_with fail
      refine HCj.out.mono ?_
      rintro e w4 ⟨rfl,hb4⟩
      have HB4:=vQ hb4
      clear hb4 a0 a1 a2 a3 a4 HCj n4
      by_cases hz0:z=0
      ·have hzb:((z:Int) != 0)=false:=by rw[hz0];rfl
       have HN:Hid (Below w2.1.size w2 w4∧∀m (h1:m<xs.length),m<j+1->chk (d+1) xs[m]=0):=by
        refine⟨HL.out.1.trans (HB4.out.mono HL.out.1.size),fun m h1 hm=>?_⟩
        by_cases hmj:m=j
        ·subst hmj;rw[<-HZz.out];exact hz0
        ·exact HL.out.2 m h1 (by omega)
       clear HL HB4 HZz hz0
       go_wp2
       go_roundw
       case rel=>exact⟨j+1,by omega,by go_num,HN⟩
       case measure=>simp[intOf];omega
      ·have hzb:((z:Int) != 0)=true:=by rw[bne_iff_ne];omega
       have HRz:Hid (R=z):=by
        show _=_
        rw[HR.out,HZz.out]
        exact gE (d+1) xs j hlt (fun m h hm=>HL.out.2 m h hm) (by rw[<-HZz.out];exact hz0)
       have HF:=vQ (HBw.out.trans (HB4.out.mono HBw.out.size))
       clear HL HB4 HZz hz0 HR
       go_wp2
       go_ret
       exact⟨by rw[HRz.out];rfl,HF.out⟩
     ·have hjn:¬(j:Int)<(xs.length:Int):=by omega
      have HRz:Hid (R=0):=by
       show _=_
       rw[HR.out]
       exact eh (d+1) xs (fun m h=>HL.out.2 m h (by omega))
      have HF:=vQ hbw
      clear HL hbw hlt HR
      go_wp2
      go_ret
      exact⟨by rw[HRz.out];rfl,HF.out⟩
  ·have hk4:(k==4)=false:=aH h4
   have HR:Hid (R=ei (d+1) xs):=by show _=_;rw[HR2.out,if_neg (fun hc=>h4 hc.1)]
   clear HR2
   go_wp2_with fail
   go_loopw [7,8] (fun v7 _ wr=>∃j:Nat,j<=xs.length∧v7=.int .i64 j∧Hid (Below w2.1.size w2 wr∧∀m (h1:m<xs.length),m<j->chk (d+1) xs[m]=0)) (fun v7 _ _=>xs.length-(intOf v7).toNat)
   case atStart=>exact⟨0,by omega,rfl,vZ,fun m _ h=>by omega⟩
   case round=>
    obtain⟨j,hj,rfl,HL⟩:=hrel
    have n4:wr.cell? ⟨w.1.size,4,none⟩=some (.slice p xs.length c):=ab HL.out.1 c4
    have hbw:Below w.1.size w wr:=HB2.out.trans (HL.out.1.mono (by omega))
    by_cases hlt:j<xs.length
    ·obtain⟨ux,hvx,hix⟩:=HX.out j hlt
     obtain⟨bx,ox,kx,ix,fx,tx,qx,nx,cx,rfl,_,rfl,a0,a1,a2,a3,a4⟩:=(hix.on hbw).lies
     have HCj:=vQ (HC.out j hlt wr hbw _ hvx)
     have hj1:(j:Int)<(xs.length:Int):=by omega
     obtain⟨z,hz⟩:∃z,z=chk (d+1) xs[j]:=⟨_,rfl⟩
     rw[<-hz] at HCj
     have HZz:=vQ hz
     have HBw:=vQ hbw
     unfold cells5 at HCj
     clear hvx hix hz hbw
     go_wp2_with fail
     refine HCj.out.mono ?_
     rintro e w4 ⟨rfl,hb4⟩
     have HB4:=vQ hb4
     clear hb4 a0 a1 a2 a3 a4 HCj n4
     by_cases hz0:z=0
     ·have hzb:((z:Int) != 0)=false:=by rw[hz0];rfl
      have HN:Hid (Below w2.1.size w2 w4∧∀m (h1:m<xs.length),m<j+1->chk (d+1) xs[m]=0):=by
       refine⟨HL.out.1.trans (HB4.out.mono HL.out.1.size),fun m h1 hm=>?_⟩
       by_cases hmj:m=j
       ·subst hmj;rw[<-HZz.out];exact hz0
       ·exact HL.out.2 m h1 (by omega)
      clear HL HB4 HZz hz0
      go_wp2
      go_roundw
      case rel=>exact⟨j+1,by omega,by go_num,HN⟩
      case measure=>simp[intOf];omega
     ·have hzb:((z:Int) != 0)=true:=by rw[bne_iff_ne];omega
      have HRz:Hid (R=z):=by
       show _=_
       rw[HR.out,HZz.out]
       exact gE (d+1) xs j hlt (fun m h hm=>HL.out.2 m h hm) (by rw[<-HZz.out];exact hz0)
      have HF:=vQ (HBw.out.trans (HB4.out.mono HBw.out.size))
      clear HL HB4 HZz hz0 HR
      go_wp2
      go_ret
      exact⟨by rw[HRz.out];rfl,HF.out⟩
    ·have hjn:¬(j:Int)<(xs.length:Int):=by omega
     have HRz:Hid (R=0):=by
      show _=_
      rw[HR.out]
      exact eh (d+1) xs (fun m h=>HL.out.2 m h (by omega))
     have HF:=vQ hbw
     clear HL hbw hlt HR
     go_wp2
     go_ret
     exact⟨by rw[HRz.out];rfl,HF.out⟩
theorem jd(x:V)(w:World)(u:AV)(h:ax w u x):Calls Tryz.prog 98 #[.agg u] w fun e w'=>e=.returned (.int .i64 (chk 1 x:Nat))∧Below w.1.size w w':=by
 obtain⟨k,i,b,t,xs⟩:=x
 obtain⟨p,c,rfl,-⟩:=h.open
 have hB1:Below w.1.size w (w.alloc (.cells (cells5 k i b t p xs.length c) 87)):=vY
 have HB1:=vQ hB1
 have HC:=vQ (tr _ 1 _ _ (by omega) (h.on hB1))
 clear hB1 h
 obtain⟨R,hR⟩:∃R,R=chk 1 (.mk k i b t xs):=⟨_,rfl⟩
 rw[<-hR] at HC ⊢
 clear hR
 unfold cells5 at HC HB1 ⊢
 go_enter Tryz.func98,Tryz.ntmps98
 go_wp2_with fail
 refine HC.out.mono ?_
 rintro e w2 ⟨rfl,hb2⟩
 have HB2:=vQ (HB1.out.trans (hb2.mono HB1.out.size))
 clear hb2
 go_wp2
 go_ret
 exact⟨rfl,HB2.out⟩
end
section
theorem fO(b:Nat):aC (aC b)=aC b:=by
 unfold aC
 by_cases h:kL b=true
 ·rw[if_pos h]
  kernel_rfl
 ·rw[if_neg h,if_neg h]
theorem om{xs:List V}{f g:V->V}(h:∀x∈xs,f x=g x):xs.map f=xs.map g:=List.map_congr_left h
theorem qV:∀x:V,V.fix (V.fix x)=V.fix x:=by
 intro x
 refine V.ind (P:=fun x=>V.fix (V.fix x)=V.fix x) ?_ x
 intro k i b t xs ih
 rw[V.fix_mk,V.fix_mk,fO,V.fixL_eq,V.fixL_eq,List.map_map]
 congr 1
 exact om ih
theorem same_iff:∀x y:V,V.same x y=true↔V.fix x=V.fix y:=by
 intro x
 refine V.ind (P:=fun x=>∀y,V.same x y=true↔V.fix x=V.fix y) ?_ x
 intro k i b t xs ih y
 have hL:∀(xs ys:List V),(∀x∈xs,∀y,V.same x y=true↔V.fix x=V.fix y)->(V.sameL xs ys=true↔xs.map V.fix=ys.map V.fix):=by
  intro xs
  induction xs with
  |nil=>intro ys _;cases ys <;> simp[V.sameL_nil,V.sameL_nc]
  |cons x r ihr=>
   intro ys hx
   cases ys with
   |nil=>simp[V.sameL_cn]
   |cons y s=>
    simp only[V.sameL_cons,Bool.and_eq_true,List.map_cons,List.cons.injEq]
    rw[hx x (by simp) y,ihr s (fun z hz=>hx z (by simp[hz]))]
 obtain⟨k',i',b',t',ys⟩:=y
 rw[V.same_mk,V.fix_mk,V.fix_mk,V.fixL_eq,V.fixL_eq]
 simp only[Bool.and_eq_true,beq_iff_eq,decide_eq_true_eq,V.mk.injEq]
 rw[hL xs ys ih]
 constructor
 ·rintro⟨⟨⟨⟨h1,h2⟩,h3⟩,h4⟩,h5⟩;exact⟨h1,h2,h4,h3,h5⟩
 ·rintro⟨h1,h2,h3,h4,h5⟩;exact⟨⟨⟨⟨h1,h2⟩,h4⟩,h3⟩,h5⟩
end
end Go.Proofs.YtlgfdgdlaahpfaaGreatDoor
