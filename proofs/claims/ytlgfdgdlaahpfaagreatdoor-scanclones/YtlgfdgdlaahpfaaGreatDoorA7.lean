import Derived.Test.YtlgfdgdlaahpfaaGreatDoorB20
import Derived.Test.YtlgfdgdlaahpfaaGreatDoorB03
import Derived.Test.YtlgfdgdlaahpfaaGreatDoorB15
import Derived.Handy
set_option maxRecDepth 100000
set_option maxHeartbeats 4000000
namespace Go.Proofs.YtlgfdgdlaahpfaaGreatDoor
section
open Go.RowKit
def Ints(w:World)(b:Nat)(l:List Int):Prop:=b<w.1.size∧∀j (h:j<l.length),w.cell? ⟨b,j,none⟩=some (.int .i64 l[j])
theorem Ints.on{w w':World}{b:Nat}{l:List Int}(h:Ints w b l)(hb:Below w.1.size w w'):Ints w' b l :=
 ⟨Nat.lt_of_lt_of_le h.1 hb.size,fun j hj=>by rw[hb.cell (p:=⟨b,j,none⟩) h.1];exact h.2 j hj⟩
theorem cK(w:World)(l:List Int){C:AV}(h:C=(l.map fun n=>Value.int .i64 n).toArray):Ints (w.alloc (.cells C 2)) w.1.size l:=by
 subst h
 refine⟨by simp,fun j hj=>?_⟩
 rw[World.cell?_alloc_new]
 simp[hj]
theorem iA(lim:Int)(b:Nat)(l:List Int)(hl:l.length<=100)(w:World)(h:Ints w b l):
  Calls Tryz.prog 201 #[.int .i64 lim,.slice (some ⟨b,0,none⟩) l.length l.length] w fun e w'=>e=.returned (.bool (l.all (Fr.within lim)))∧w'=w:=by
 have H:=vQ h
 clear h
 obtain⟨R,hR⟩:∃R,R=l.all (Fr.within lim):=⟨_,rfl⟩
 rw[<-hR]
 have HR:=vQ hR
 clear hR
 go_enter Tryz.func201,Tryz.ntmps201
 go_wp2
 go_loop [9] (fun v9=>∃k:Nat,k<=l.length∧v9=.int .i64 k∧Hid ((l.take k).all (Fr.within lim)=true)) (fun v9=>l.length-(intOf v9).toNat)
 case atStart=>exact⟨0,by omega,rfl,rfl⟩
 case round=>
  obtain⟨k,hk,rfl,HA⟩:=hrel
  by_cases hlt:k<l.length
  ·have hlt':(k:Int)<(l.length:Int):=by omega
   have hc:=H.out.2 k hlt
   obtain⟨n,hn⟩:∃n,n=l[k]:=⟨_,rfl⟩
   rw[<-hn] at hc
   have HN:Hid (n∈l):=by show n∈l;rw[hn];exact List.getElem_mem hlt
   have HT:Hid (Fr.within lim n=true->(l.take (k+1)).all (Fr.within lim)=true):=fun hh=>by
    rw[List.take_succ_eq_append_getElem hlt,List.all_append,HA.out,<-hn]
    simp[hh]
   have HF:Hid (Fr.within lim n=false->R=false):=fun hh=>by
    rw[HR.out,List.all_eq_false]
    exact⟨n,HN.out,by rw[hh];decide⟩
   clear hn HN HA
   by_cases hneg:n<0
   ·have HF2:Hid (R=false):=HF.out (decide_eq_false (by omega))
    clear HF HT
    go_wp2
    go_ret
    exact⟨by rw[HF2.out];rfl,rfl⟩
   ·by_cases hge:lim<=n
    ·have HF2:Hid (R=false):=HF.out (decide_eq_false (by omega))
     clear HF HT
     go_wp2
     go_ret
     exact⟨by rw[HF2.out];rfl,rfl⟩
    ·have HT2:Hid ((l.take (k+1)).all (Fr.within lim)=true):=HT.out (decide_eq_true (by omega))
     clear HF HT
     go_wp2
     go_round
     case rel=>exact⟨k+1,by omega,by go_num,HT2⟩
     case measure=>simp[intOf];omega
  ·have hkk:k=l.length:=by omega
   subst hkk
   have HT:Hid (R=true):=by
    show _=_
    rw[HR.out,<-HA.out,List.take_length]
   clear HA
   go_wp2
   go_ret
   exact⟨by rw[HT.out];rfl,rfl⟩
theorem dY(l:List Int)(k:Nat)(h:k<l.length):Fr.nums (l.take (k+1))=Fr.nums (l.take k)++Leb.put l[k].toNat:=by
 unfold Fr.nums
 rw[List.take_succ_eq_append_getElem h,List.map_append,List.flatten_append]
 simp
theorem nf(b:Nat)(l:List Int)(hl:l.length<=100)(hw:∀n∈l,0<=n∧n<=9223372036854775807)(w:World)(h:Ints w b l):
    Calls Tryz.prog 202 #[.slice (some ⟨b,0,none⟩) l.length l.length] w fun e w'=>∃p cap,e=.returned (.slice p (Fr.nums l).length cap)∧Has w' w.1.size (.slice p (Fr.nums l).length cap) (Fr.nums l)∧Below w.1.size w w':=by
  have H:=vQ h
  have HW:=vQ hw
  clear h hw
  go_enter Tryz.func202,Tryz.ntmps202
  go_wp2
  go_loopw [3,8] (fun v3 v8 wr=>∃(k:Nat) (xs:L8),k<=l.length∧v8=.int .i64 k∧xs.length<=10*k∧Hid (xs=Fr.nums (l.take k)∧Has wr w.1.size v3 xs∧Below w.1.size w wr)) (fun _ v8 _=>l.length-(intOf v8).toNat)
  case atStart=>exact⟨0,[],by omega,rfl,by simp,rfl,aR _ _,vZ⟩
  case round=>
    obtain⟨k,xs,hk,rfl,hx,HK⟩:=hrel
    have hB:=HK.out.2.2.size
    have HO:=vQ HK.out.2.1
    by_cases hlt:k<l.length
    · have hlt':(k:Int)<(l.length:Int):=by omega
      have hc:wr.cell? ⟨b,k,none⟩=some (.int .i64 l[k]):=(HK.out.2.2.cell (p:=⟨b,k,none⟩) H.out.1).trans (H.out.2 k hlt)
      have hb2:=HW.out l[k] (List.getElem_mem hlt)
      have HT:=vQ (dY l k hlt)
      obtain⟨m,hm⟩:∃m:Nat,(m:Int)=l[k]:=⟨l[k].toNat,by omega⟩
      rw[<-hm] at hc hb2 HT
      have hm63:(m:Int)<=9223372036854775807:=hb2.2
      have HP:Hid (∀z:Int,z=(m:Int)->Calls Tryz.prog 94 #[.int .u64 z] wr fun e w'=>∃g cap,e=.returned (.slice (some ⟨g,0,none⟩) (Leb.put m).length cap)∧bh w' wr.1.size g cap (Leb.put m)∧Below wr.1.size wr w'):=fun z hz=>by
        subst hz;exact fe _ (by omega) wr
      have hpl:=Leb.put_length_le m
      have HT2:Hid (Fr.nums (l.take (k+1))=Fr.nums (l.take k)++Leb.put m):=by
        show _=_
        rw[HT.out,Int.toNat_natCast]
      clear hm hb2 HT
      obtain⟨u,hu⟩:∃u,u=Leb.put m:=⟨_,rfl⟩
      rw[<-hu] at HP hpl HT2
      clear hu
      go_wp2_with fail
      refine(HP.out _ (by omega)).mono ?_
      rintro e w1 ⟨g,cap1,rfl,hmn,hb1⟩
      have HM:=vQ hmn
      have HB1:=vQ hb1
      have hB1:=hb1.size
      clear hmn hb1 HP
      go_wp2_with (first
        | (at_builtin
           refine au (HO.out.on HB1.out) HM.out.at (by omega) (by omega) rfl rfl rfl rfl rfl ?_
           intro ys q3 cap3 W HY hh ha hk2
           have HB2:=vQ (ar ha (HO.out.on HB1.out) (by omega))
           have HH:=vQ hh
           have hyl:ys.length<=10*(k+1):=by rw[HY.out,List.length_append];omega
           clear ha hk2 hh)
        |fail)
      go_roundw
      case rel=>exact⟨k+1,ys,by omega,by go_num,hyl,by rw[HY.out,HT2.out,HK.out.1],HH.out,(HK.out.2.2.trans (HB1.out.mono hB)).trans HB2.out⟩
      case measure=>simp[intOf];omega
    · have hkk:k=l.length:=by omega
      subst hkk
      have HX:Hid (xs=Fr.nums l):=by
        show _=_
        rw[HK.out.1,List.take_length]
      obtain⟨p,cap,rfl,-,-⟩:=HO.out.at
      go_wp2
      go_ret
      rw[<-HX.out]
      exact⟨p,cap,rfl,HO.out,HK.out.2.2⟩
end
section
open Go.RowKit
theorem Hv.on{B:Nat}{w w':World}(h:Hv w)(hb:Below B w w')(hB:2<B):Hv w':=fun n hn=>by
 rw[hb.cell (p:=⟨2,n,none⟩) hB]
 exact h n hn
theorem Hv.lt{w:World}(h:Hv w):2<w.1.size:=World.block_lt_of_cell? _ _ (h 0 (by omega))
theorem Hv.next{w w':World}(h:Hv w)(hb:Below w.1.size w w'):Hv w':=h.on hb h.lt
theorem oA(s:Nat)(a b c d:Int)(ha:a=((s % 256:Nat):Int))(hb:b=((s / 256 % 256:Nat):Int))(hc:c=((s / 256 / 256 % 256:Nat):Int))(hd:d=((s / 256 / 256 / 256 % 256:Nat):Int)):
  (#[.int .u8 a,.int .u8 b,.int .u8 c,.int .u8 d]:AV)=(cellsOf (Sch.le 4 s)).toArray:=by
 subst ha hb hc hd
 simp only[Sch.le,cellsOf,List.map_cons,List.map_nil,UInt8.toNat_ofNat']
 simp
theorem pz(p:OA)(c:Nat)(l:L8)(hl:l.length<=140737488351232)(w:World)(ht:Hv w)(h:At w p l):
  Calls Tryz.prog 74 #[.slice p l.length c] w fun e w'=>e=.returned (.slice (some ⟨w.1.size,0,none⟩) 4 4)∧w'=w.alloc (.cells (cellsOf (Sch.le 4 (Crc.sum l))).toArray 5):=by
 have HS:=vQ (rX p c l hl w ht h)
 have hlt:Crc.sum l<4294967296:=Crc.update_lt (by omega) l
 obtain⟨s,hs⟩:∃s,s=Crc.sum l:=⟨_,rfl⟩
 rw[<-hs] at HS hlt ⊢
 clear hs ht h
 go_enter Tryz.func74,Tryz.ntmps74
 go_wp2_with fail
 refine HS.out.mono ?_
 rintro e w1 ⟨rfl,hw⟩
 rw[hw]
 clear hw w1 HS
 go_wp2
 go_ret
 refine⟨rfl,congrArg (fun C=>w.alloc (.cells C 5)) (oA s _ _ _ _ ?_ ?_ ?_ ?_)⟩ <;> omega
theorem pD(B:Nat)(p:OA)(c:Nat)(l:L8)(hl:l.length<=10000000)(w:World)(ht:Hv w)(h:Has w B (.slice p l.length c) l)(hB:B<=w.1.size):
    Calls Tryz.prog 53 #[.slice p l.length c] w fun e w'=>∃g o cap,e=.returned (.slice (some ⟨g,o,none⟩) (Cob.stuff (Fr.check l)).length cap)∧ev w' g o (Cob.stuff (Fr.check l))∧w.1.size<=g∧(Cob.stuff (Fr.check l)).length<=cap∧Below B w w':=by
  have HA:Hid (At w p l):=by
    obtain⟨p',c',he,ha,-⟩:=h.at
    injection he with e1
    subst e1
    exact ha
  have HH:=vQ h
  have HS:=vQ (pz p c l (by omega) w ht HA.out)
  have HL:Hid (At (w.alloc (.cells (cellsOf (Sch.le 4 (Crc.sum l))).toArray 5)) (some ⟨w.1.size,0,none⟩) (Sch.le 4 (Crc.sum l))):=rz w _ _ rfl
  have HB0:Hid (Below w.1.size w (w.alloc (.cells (cellsOf (Sch.le 4 (Crc.sum l))).toArray 5))):=vY
  obtain⟨k,hk⟩:∃k,k=Sch.le 4 (Crc.sum l):=⟨_,rfl⟩
  have hk4:k.length=4:=by rw[hk,Sch.le_len]
  have HC:Hid (Fr.check l=l++k):=by show _=_;rw[hk];rfl
  rw[<-hk] at HS HL HB0
  obtain⟨W0,hW0⟩:∃W0,W0=w.alloc (.cells (cellsOf k).toArray 5):=⟨_,rfl⟩
  rw[<-hW0] at HS HL HB0
  have hs0:=HB0.out.size
  clear hW0 hk ht h
  go_enter Tryz.func53,Tryz.ntmps53
  go_wp2_with fail
  refine HS.out.mono ?_
  rintro e w1 ⟨rfl,hw⟩
  rw[hw]
  clear hw w1 HS
  go_wp2_with (first
    | (at_builtin
       refine au (c:=4) (HH.out.on HB0.out) HL.out (by omega) (by omega) rfl rfl rfl rfl (by rw[hk4];rfl) ?_
       intro ys q cap W HY hh ha hk2
       have HB2:=vQ (ar ha (HH.out.on HB0.out) (by omega))
       have HYs:=vQ hh
       have hyl:ys.length<=10000010:=by rw[HY.out,List.length_append];omega
       clear ha hk2 hh)
    |fail)
  obtain⟨q',cap',he,hA2,hcap⟩:=HYs.out.at
  injection he with e1 _ e2
  subst e1 e2
  have hs2:=HB2.out.size
  refine(jw q cap ys W (by omega) hcap hA2).mono ?_
  rintro e w2 ⟨g,o,cap2,rfl,hF,hg,hc2,hb⟩
  have HF:=vQ hF
  have HB3:=vQ hb
  clear hF hb hA2
  have HEq:Hid (Fr.check l=ys):=by show _=_;rw[HC.out,HY.out]
  go_wp2
  go_ret
  rw[HEq.out]
  exact⟨g,o,cap2,rfl,HF.out,by omega,hc2,((HB0.out.mono hB).trans HB2.out).trans (HB3.out.mono (by omega))⟩
theorem t7(p q:OA)(c d:Nat)(a b:L8)(w:World)(ha:At w p a)(hb:At w q b):
  Calls Tryz.prog 115 #[.slice p a.length c,.slice q b.length d] w fun e w'=>e=.returned (.bool (a==b))∧w'=w:=by
 have h1:=fm ha c
 have h2:=fm hb d
 have HE:Hid (((textOf a).toList==(textOf b).toList)=(a==b)):=by
  show _=_
  rw[ByteArray.toList_eq,ByteArray.toList_eq,fS,fS]
 clear ha hb
 generalize textOf a=x at h1 HE
 generalize textOf b=y at h2 HE
 go_enter Tryz.func115,Tryz.ntmps115
 go_wp2
 go_ret
 exact⟨by rw[<-HE.out];rfl,rfl⟩
theorem qm(n c:Nat)(w:World):(binOp .eql 31 (.slice none n c) (.slice none 0 0)).run Tryz.prog w=.ok (.bool true) w:=by kernel_rfl
theorem qk(a:Addr)(n c:Nat)(w:World):(binOp .eql 31 (.slice (some a) n c) (.slice none 0 0)).run Tryz.prog w=.ok (.bool false) w:=by kernel_rfl
theorem t8(p:OA)(c:Nat)(l:L8)(hl:l.length<=140737488351232)(w:World)(h:At w p l):
    Calls Tryz.prog 145 #[.slice p l.length c] w fun e w'=>∃q cap,e=.returned (.slice q l.length cap)∧Has w' w.1.size (.slice q l.length cap) l∧Below w.1.size w w':=by
  cases p with
  |none=>
    have h0:l=[]:=by
      rcases h with rfl | ⟨b,o,hp,_,_⟩
      · rfl
      · cases hp
    subst h0
    have hq:=qm 0 c w
    go_enter Tryz.func145,Tryz.ntmps145
    go_wp2
    go_ret
    exact⟨none,0,rfl,aR _ _,vZ⟩
  |some a=>
    have HA:=vQ (h.on ((Below.refl _ w).alloc vX (.cells #[] 5)))
    have HM:=vQ (qp w).has
    have HB:Hid (Below w.1.size w (w.alloc (.cells #[] 5))):=vY
    have hq:=qk a l.length c w
    clear h
    go_enter Tryz.func145,Tryz.ntmps145
    go_wp2_with (first
      | (at_builtin
         refine au (xs:=[]) HM.out HA.out (by simp;omega) (by simp) rfl rfl rfl rfl rfl ?_
         intro ys q cap W HY hh ha hk2
         have HB2:=vQ (ar ha HM.out (by simp))
         have HYs:=vQ hh
         clear ha hk2 hh)
      |fail)
    go_ret
    have e:ys=l:=HY.out
    rw[e] at HYs
    rw[e]
    exact⟨q,cap,rfl,HYs.out,HB.out.trans HB2.out⟩
end
section
open Go.RowKit
theorem ints_at{w:World}{H:Nat}(hH:w.1.size=H)(l:List Int){C:AV}(h:C=(l.map fun n=>Value.int .i64 n).toArray):Ints (w.alloc (.cells C 2)) H l:=by
 subst hH
 exact cK w l h
def iY(w:World)(er:Nat)(l:L8)(e:Ending)(w':World):Prop :=
 (er=0∧∃q cap,e=.returned (.tuple #[.slice q l.length cap,.int .i64 0])∧Has w' w.1.size (.slice q l.length cap) l∧Below w.1.size w w')∨(er≠0∧e=.returned (.tuple #[.slice none 0 0,.int .i64 (er:Nat)])∧Below w.1.size w w')
theorem aJ{w w':World}{er:Nat}{l:L8}(h:er≠0)(hb:Below w.1.size w w'):iY w er l (.returned (.tuple #[.slice none 0 0,.int .i64 (er:Nat)])) w':=.inr ⟨h,rfl,hb⟩
def cX(n:Int)(s:List Col):Nat:=if Fr.within Fr.N n=false then 7 else Sch.err s
theorem lN(n:Int)(hn:Fr.i64 n)(s:List Col)(sp:OA)(sc:Nat)(w:World)(hs:s.length*120<=140737488351232)(hx:bg w sp s)(hwf:∀x∈s,x.wf):
    Calls Tryz.prog 199 #[.agg #[.int .i64 n,.slice sp s.length sc]] w (iY w (cX n s) (Fr.nums [n]++Sch.bytes s)):=by
  obtain⟨w0,hw0⟩:∃w0,w0=w.alloc (.cells #[.int .i64 n,.slice sp s.length sc] 124):=⟨_,rfl⟩
  have hz0:w0.1.size=w.1.size+1:=by rw[hw0];simp
  have HB0:Hid (Below w.1.size w w0):=by rw[hw0];exact vY
  have c0:w0.cell? ⟨w.1.size,0,none⟩=some (.int .i64 n):=by rw[hw0];simp
  have c1:w0.cell? ⟨w.1.size,1,none⟩=some (.slice sp s.length sc):=by rw[hw0];simp
  obtain⟨w1,hw1⟩:∃w1,w1=w0.alloc (.cells #[.int .i64 n] 2):=⟨_,rfl⟩
  have HI:Hid (Ints w1 (w.1.size+1) [n]):=by rw[hw1];exact ints_at hz0 [n] rfl
  have HB01:Hid (Below w0.1.size w0 w1):=by rw[hw1];exact vY
  have HB1:Hid (Below w.1.size w w1):=HB0.out.trans (HB01.out.mono (by omega))
  have hz1:w1.1.size=w.1.size+2:=by rw[hw1];simp[hz0]
  have d0:w1.cell? ⟨w.1.size,0,none⟩=some (.int .i64 n):=ab HB01.out c0
  have d1:w1.cell? ⟨w.1.size,1,none⟩=some (.slice sp s.length sc):=ab HB01.out c1
  have HBl:=vQ (iA 2147483648 (w.1.size+1) [n] (by simp) w1 HI.out)
  have e1:[n].all (Fr.within 2147483648)=Fr.within Fr.N n:=by simp[Fr.N]
  rw[e1] at HBl
  have HW:Hid ((w.alloc (.cells #[.int .i64 n,.slice sp s.length sc] 124)).alloc (.cells #[.int .i64 n] 2)=w1):=by rw[hw1,hw0];exact rfl
  have HN:=vQ hn
  obtain⟨er,her⟩:∃er,er=cX n s:=⟨_,rfl⟩
  have HEr:=vQ her
  rw[<-her]
  have HX:=vQ hx
  have HWf:=vQ hwf
  clear e1 hw0 hw1 hn her hx hwf c0 c1 HI HB01
  by_cases hin:Fr.within Fr.N n=true
  · rw[hin] at HBl
    have HEr2:Hid (er=Sch.err s):=by
      show _=_
      rw[HEr.out,cX,hin]
      rfl
    have h0n:=(Fr.within_iff.1 hin).1
    have HE:=vQ (nA s sp sc w1 hs (HX.out.on HB1.out) HWf.out)
    clear HEr hin
    by_cases hz:Sch.err s=0
    · have HEr3:Hid (er=0):=HEr2.out.trans hz
      have hbl:(Sch.bytes s).length<=1024:=(Sch.err_open hz).2.2.2
      rw[show jJ s=Sch.bytes s from if_pos hz,hz] at HE
      obtain⟨bs,hbs⟩:∃bs,bs=Sch.bytes s:=⟨_,rfl⟩
      rw[<-hbs] at HE hbl ⊢
      clear hz HEr2 hbs
      go_enter Tryz.func199,Tryz.ntmps199
      go_wp2_with fail
      rw[HW.out]
      refine HBl.out.mono ?_
      rintro e w2 ⟨rfl,hw⟩
      rw[hw]
      clear hw w2 HBl HW
      go_wp2_with fail
      refine HE.out.mono ?_
      rintro e w2 ⟨q,cap,rfl,hat,hcap,hb⟩
      have e0:w2.cell? ⟨w.1.size,0,none⟩=some (.int .i64 n):=ab hb d0
      have HA:=vQ hat
      have HB2:=vQ (HB1.out.trans (hb.mono (by omega)))
      have hs2:=HB2.out.size
      clear hat hcap hb HE d0 d1
      have HI2:Hid (Ints (w2.alloc (.cells #[.int .i64 n] 2)) w2.1.size [n]):=cK w2 [n] rfl
      have HB3:Hid (Below w2.1.size w2 (w2.alloc (.cells #[.int .i64 n] 2))):=vY
      have HP:=vQ (nf w2.1.size [n] (by simp) (fun m hm=>by simp at hm;subst hm;exact⟨h0n,HN.out.2⟩) _ HI2.out)
      go_wp2_with fail
      refine HP.out.mono ?_
      rintro e w3 ⟨p3,cap3,rfl,hh,hb⟩
      have HH:=vQ (hh.lower (B':=w2.1.size) HB3.out.size)
      have HB4:=vQ (HB3.out.trans (hb.mono HB3.out.size))
      have HA3:=vQ (HA.out.on HB4.out)
      have hs3:=HB4.out.size
      clear hh hb HP HI2 HB3
      have hnl:(Fr.nums [n]).length<=10:=by
        have:=Leb.put_length_le n.toNat
        rw[Fr.nums_cons,Fr.nums_nil,List.append_nil]
        exact this
      obtain⟨ns,hns⟩:∃ns,ns=Fr.nums [n]:=⟨_,rfl⟩
      rw[<-hns] at HH hnl ⊢
      have HNs:=vQ hns
      clear hns
      go_wp2_with (first
        | (at_builtin
           refine au HH.out HA3.out (by omega) hs3 rfl rfl rfl rfl rfl ?_
           intro ys q5 cap5 W HY hh ha hk2
           have HB5:=vQ (ar ha HH.out hs3)
           have HYs:=vQ hh
           clear ha hk2 hh)
        |fail)
      go_ret2
      have e:Fr.nums [n]++bs=ys:=by rw[HY.out,HNs.out]
      rw[e]
      exact .inl ⟨HEr3.out,q5,cap5,rfl,HYs.out.lower (by omega),(HB2.out.trans (HB4.out.mono (by omega))).trans (HB5.out.mono (by omega))⟩
    · have hne:er≠0:=by rw[HEr2.out];exact hz
      have hb2:((er:Int) != 0)=true:=by rw[bne_iff_ne];omega
      rw[show jJ s=[] from if_neg hz,<-HEr2.out] at HE
      clear hz HEr2
      go_enter Tryz.func199,Tryz.ntmps199
      go_wp2_with fail
      rw[HW.out]
      refine HBl.out.mono ?_
      rintro e w2 ⟨rfl,hw⟩
      rw[hw]
      clear hw w2 HBl HW
      go_wp2_with fail
      refine HE.out.mono ?_
      rintro e w2 ⟨q,cap,rfl,hat,hcap,hb⟩
      have HB2:=vQ (HB1.out.trans (hb.mono (by omega)))
      clear hat hcap hb HE
      go_wp2
      go_ret2
      exact aJ hne HB2.out
  · have hin2:Fr.within Fr.N n=false:=by simpa using hin
    rw[hin2] at HBl
    have HEr2:Hid (er=7):=by
      show _=_
      rw[HEr.out,cX,hin2]
      rfl
    clear HEr hin hin2
    go_enter Tryz.func199,Tryz.ntmps199
    go_wp2_with fail
    rw[HW.out]
    refine HBl.out.mono ?_
    rintro e w2 ⟨rfl,hw⟩
    rw[hw]
    clear hw w2 HBl HW
    go_wp2
    go_ret2
    rw[HEr2.out]
    exact aJ (by omega) HB1.out
end
section
open Go.RowKit
theorem lF{B:Nat}{v:Value}{xs l:L8}{p:OA}{c:Nat}{w:World}(hown:Has w B v xs)(h:At w p l)(hlen:xs.length+l.length<=140737488355328)(hB:B<=w.1.size){ops:Array Oper}{o:Oper}{a:Act}{K:Act->World->Prop}{Q:Exit->Act->World->Prop}{E:Prop}(s x:Operand)(ht:o.type=31)(hg:o.guard=none)(hop:o.op=Op.call { callee:=Callee.builtin Builtin.append,args:=#[s,x],argTypes:=#[31,31] })(hs:a.eval s=v)(hx:a.eval x=.slice p l.length c)(hK:∀q cap W ys,Hid (ys=xs++l)->bB w B v W (.slice q ys.length cap) ys->K (a.put o.dst (.slice q ys.length cap)) W):
  if Region.wanted o (yielded ops a.tmps)=true then Oper.wp Tryz.prog o a w K Q else E:=by
 have hw:Region.wanted o (yielded ops a.tmps)=true:=by simp[Region.wanted,hg]
 rw[if_pos hw]
 obtain⟨q,cap,W,⟨hr⟩,hm,ha,-,hb3⟩:=ie B v xs l p c w hown h (by omega) hB
 unfold Oper.wp
 have he:(execOp a.eval o).run Tryz.prog w=.ok (.value (.slice q (xs++l).length cap)) W:=by
  simp only[execOp,hop,resolve,invoke,builtin]
  simp[hs,hx,ht,hr,Result.andThen]
 rw[he]
 exact hK q cap W (xs++l) (vQ rfl) ⟨hm,ha,hb3⟩
theorem Ints.drew{w:World}{b:Nat}{l:List Int}(h:Ints w b l):Ints w.drew b l:=⟨h.1,fun j hj=>h.2 j hj⟩
theorem dw{w W:World}{B:Nat}{v q:Value}{xs ys:L8}(hg:bB w B v W q ys)(hown:Has w B v xs){b o:Nat}{u:Value}(hb:b<B)(hB:B<=w.1.size)(h:w.cell? ⟨b,o,none⟩=some u):W.cell? ⟨b,o,none⟩=some u :=
 ((ar hg.aside hown hB).cell (p:=⟨b,o,none⟩) hb).trans h
def dM(n q f r:Int)(b:L8):Nat:=if (Fr.within Fr.N n&&Fr.within Fr.S q&&Fr.within Fr.S f&&decide (1<=r∧r<=64))=false then 7 else if 2200<b.length then 2 else 0
theorem rj(n q f r:Int)(hn:Fr.i64 n)(hq:Fr.i64 q)(hf:Fr.i64 f)(hr:Fr.i64 r)(b:L8)(bp:OA)(bc:Nat)(w:World)(hbl:b.length<=140737488351232)(hat:At w bp b):
    Calls Tryz.prog 203 #[.agg #[.int .i64 n,.int .i64 q,.int .i64 f,.int .i64 r,.slice bp b.length bc]] w (iY w (dM n q f r b) (Fr.nums [n,q,f,r]++b)):=by
  obtain⟨w0,hw0⟩:∃w0,w0=w.alloc (.cells #[.int .i64 n,.int .i64 q,.int .i64 f,.int .i64 r,.slice bp b.length bc] 126):=⟨_,rfl⟩
  have hz0:w0.1.size=w.1.size+1:=by rw[hw0];simp
  have HB0:Hid (Below w.1.size w w0):=by rw[hw0];exact vY
  have c0:w0.cell? ⟨w.1.size,0,none⟩=some (.int .i64 n):=by rw[hw0];simp
  have c1:w0.cell? ⟨w.1.size,1,none⟩=some (.int .i64 q):=by rw[hw0];simp
  have c2:w0.cell? ⟨w.1.size,2,none⟩=some (.int .i64 f):=by rw[hw0];simp
  have c3:w0.cell? ⟨w.1.size,3,none⟩=some (.int .i64 r):=by rw[hw0];simp
  have c4:w0.cell? ⟨w.1.size,4,none⟩=some (.slice bp b.length bc):=by rw[hw0];simp
  obtain⟨w1,hw1⟩:∃w1,w1=w0.alloc (.cells #[.int .i64 n] 2):=⟨_,rfl⟩
  have HI:Hid (Ints w1 (w.1.size+1) [n]):=by rw[hw1];exact ints_at hz0 [n] rfl
  have HB01:Hid (Below w0.1.size w0 w1):=by rw[hw1];exact vY
  have HB1:Hid (Below w.1.size w w1):=HB0.out.trans (HB01.out.mono (by omega))
  have hz1:w1.1.size=w.1.size+1+1:=by rw[hw1];simp[hz0]
  have d0:=ab HB01.out c0
  have d1:=ab HB01.out c1
  have d2:=ab HB01.out c2
  have d3:=ab HB01.out c3
  have d4:=ab HB01.out c4
  have HBl:=vQ (iA 2147483648 (w.1.size+1) [n] (by simp) w1 HI.out)
  have e1:[n].all (Fr.within 2147483648)=Fr.within Fr.N n:=by simp[Fr.N]
  rw[e1] at HBl
  have HW:Hid ((w.alloc (.cells #[.int .i64 n,.int .i64 q,.int .i64 f,.int .i64 r,.slice bp b.length bc] 126)).alloc (.cells #[.int .i64 n] 2)=w1):=by rw[hw1,hw0];exact rfl
  obtain⟨w2,hw2⟩:∃w2,w2=w1.alloc (.cells #[.int .i64 q,.int .i64 f] 2):=⟨_,rfl⟩
  have HB12:Hid (Below w1.1.size w1 w2):=by rw[hw2];exact vY
  have HB2:Hid (Below w.1.size w w2):=HB1.out.trans (HB12.out.mono (by omega))
  have HBl2:=vQ (iA 1099511627776 w1.1.size [q,f] (by simp) w2 (by rw[hw2];exact cK w1 [q,f] rfl))
  have e2:[q,f].all (Fr.within 1099511627776)=(Fr.within Fr.S q&&Fr.within Fr.S f):=by simp[Fr.S]
  rw[e2] at HBl2
  have hz2:w2.1.size=w.1.size+1+1+1:=by rw[hw2];simp[hz1]
  have x0:=ab HB12.out d0
  have x1:=ab HB12.out d1
  have x2:=ab HB12.out d2
  have x3:=ab HB12.out d3
  have x4:=ab HB12.out d4
  have HW2:Hid (w1.alloc (.cells #[.int .i64 q,.int .i64 f] 2)=w2):=by rw[hw2];exact rfl
  obtain⟨er,her⟩:∃er,er=dM n q f r b:=⟨_,rfl⟩
  have HEr:=vQ her
  rw[<-her]
  have HAt:=vQ hat
  have HNb:=vQ (And.intro hn (And.intro hq (And.intro hf hr)))
  obtain⟨bn,hbn⟩:∃bn,bn=Fr.within Fr.N n:=⟨_,rfl⟩
  obtain⟨bq,hbq⟩:∃bq,bq=(Fr.within Fr.S q&&Fr.within Fr.S f):=⟨_,rfl⟩
  rw[<-hbn] at HBl
  rw[<-hbq] at HBl2
  have HEr1:Hid (er=if (bn&&bq&&decide (1<=r∧r<=64))=false then 7 else if 2200<b.length then 2 else 0):=by
    show _=_
    rw[HEr.out,hbn,hbq,dM,<-Bool.and_assoc]
  have HIn:Hid (bn=true->bq=true->(0<=n∧0<=q∧0<=f)):=by
    intro h1 h2
    rw[hbn] at h1
    rw[hbq,Bool.and_eq_true] at h2
    exact⟨(Fr.within_iff.1 h1).1,(Fr.within_iff.1 h2.1).1,(Fr.within_iff.1 h2.2).1⟩
  have hri:=hr
  unfold Fr.i64 at hri
  clear e1 e2 hw0 hw1 hw2 hn hq hf hr her hat c0 c1 c2 c3 c4 HI HB01 HEr hbn hbq
  go_enter Tryz.func203,Tryz.ntmps203
  go_wp2_with fail
  rw[HW.out]
  refine HBl.out.mono ?_
  rintro e v ⟨rfl,hw⟩
  rw[hw]
  clear hw v HBl HW
  cases bn with
  |false=>
    have HEr2:Hid (er=7):=HEr1.out
    go_wp2
    go_ret2
    rw[HEr2.out]
    exact aJ (by omega) HB1.out
  |true=>
    go_wp2_with fail
    rw[<-hz1]
    rw[HW2.out]
    refine HBl2.out.mono ?_
    rintro e v ⟨rfl,hw⟩
    rw[hw]
    clear hw v HBl2 HW2
    cases bq with
    |false=>
      have HEr2:Hid (er=7):=HEr1.out
      go_wp2
      go_ret2
      rw[HEr2.out]
      exact aJ (by omega) HB2.out
    |true=>
      have HIn2:=vQ (HIn.out (by simp) (by simp))
      clear HIn
      by_cases h1:r<1
      · have HEr2:Hid (er=7):=by
          show _=_
          rw[HEr1.out,decide_eq_false (show ¬(1<=r∧r<=64) by omega)]
          rfl
        clear HEr1
        go_wp2
        go_ret2
        rw[HEr2.out]
        exact aJ (by omega) HB2.out
      by_cases h2:64<r
      · have HEr2:Hid (er=7):=by
          show _=_
          rw[HEr1.out,decide_eq_false (show ¬(1<=r∧r<=64) by omega)]
          rfl
        clear HEr1
        go_wp2
        go_ret2
        rw[HEr2.out]
        exact aJ (by omega) HB2.out
      have HEr2:Hid (er=if 2200<b.length then 2 else 0):=by
        show _=_
        rw[HEr1.out,decide_eq_true (show(1<=r∧r<=64) by omega)]
        rfl
      clear HEr1
      by_cases h3:2200<b.length
      · have g3:(2200:Int)<(b.length:Int):=by omega
        have HEr3:Hid (er=2):=HEr2.out.trans (if_pos h3)
        clear HEr2 h3
        go_wp2
        go_ret2
        rw[HEr3.out]
        exact aJ (by omega) HB2.out
      · have g3:¬(2200:Int)<(b.length:Int):=by omega
        have HEr3:Hid (er=0):=HEr2.out.trans (if_neg h3)
        clear HEr2 h3
        have hnl:(Fr.nums [n,q,f,r]).length<=40:=by
          have h1:=Leb.put_length_le n.toNat
          have h2:=Leb.put_length_le q.toNat
          have h3:=Leb.put_length_le f.toNat
          have h4:=Leb.put_length_le r.toNat
          simp only[Fr.nums_cons,Fr.nums_nil,List.append_nil,List.length_append]
          omega
        have HP:Hid (Calls Tryz.prog 202 #[.slice (some ⟨w.1.size+1+1+1,0,none⟩) 4 4] (w2.alloc (.cells #[.int .i64 n,.int .i64 q,.int .i64 f,.int .i64 r] 2)).drew fun e w''=>∃p cap,e=.returned (.slice p (Fr.nums [n,q,f,r]).length cap)∧Has w'' w2.1.size (.slice p (Fr.nums [n,q,f,r]).length cap) (Fr.nums [n,q,f,r])∧Below w2.1.size w2 w''):=by
          refine(nf (w.1.size+1+1+1) [n,q,f,r] (by simp) (fun m hm=>?_) _ (ints_at hz2 [n,q,f,r] rfl).drew).mono ?_
          · have h1:=HNb.out
            have h2:=HIn2.out
            unfold Fr.i64 at h1
            simp only[List.mem_cons,List.not_mem_nil,or_false] at hm
            omega
          · rintro e w'' ⟨p,cap,rfl,hh,hb⟩
            have hb0:Below w2.1.size w2 (w2.alloc (.cells #[.int .i64 n,.int .i64 q,.int .i64 f,.int .i64 r] 2)).drew:=vY.drew
            exact⟨p,cap,rfl,hh.lower hb0.size,hb0.trans (hb.mono hb0.size)⟩
        obtain⟨ns,hns⟩:∃ns,ns=Fr.nums [n,q,f,r]:=⟨_,rfl⟩
        rw[<-hns] at HP hnl
        have HNs:=vQ hns
        clear hns
        have hlen:ns.length+b.length<=140737488355328:=by omega
        go_wp2_with fail
        go_region_held3 (fun w'=>w'.cell? ⟨w.1.size,0,none⟩=some (.int .i64 n)∧w'.cell? ⟨w.1.size,1,none⟩=some (.int .i64 q)∧w'.cell? ⟨w.1.size,2,none⟩=some (.int .i64 f)∧w'.cell? ⟨w.1.size,3,none⟩=some (.int .i64 r)∧w'.cell? ⟨w.1.size,4,none⟩=some (.slice bp b.length bc)) (go_keep) (first
          | (go_at_call 202;refine HP.out.mono ?_;rintro e w3 ⟨p3,cap3,rfl,hh,hb'⟩;have y0:=ab hb' x0;have y1:=ab hb' x1;have y2:=ab hb' x2;have y3:=ab hb' x3;have y4:=ab hb' x4;have HH:=vQ hh;have HB3:=vQ hb';have HA3:=vQ ((HAt.out.on HB2.out).on hb');have hs3:=hb'.size;clear hh hb')
          | (refine lF (B:=w2.1.size) (xs:=ns) (l:=b) HH.out HA3.out hlen hs3 (.tmp 41) (.tmp 43) (by rfl) (by rfl) (by rfl) (by rfl) (by rfl) ?_
             intro q5 cap5 W ys HY hg5
             have z0:=dw hg5 HH.out (by omega) hs3 y0
             have z1:=dw hg5 HH.out (by omega) hs3 y1
             have z2:=dw hg5 HH.out (by omega) hs3 y2
             have z3:=dw hg5 HH.out (by omega) hs3 y3
             have z4:=dw hg5 HH.out (by omega) hs3 y4
             have HYs:=vQ hg5.has
             have HB5:=vQ (ar hg5.aside HH.out hs3)
             clear hg5))
        go_wp2
        go_ret2
        have e:Fr.nums [n,q,f,r]++b=ys:=by rw[HY.out,HNs.out]
        rw[e]
        exact .inl ⟨HEr3.out,q5,cap5,rfl,HYs.out.lower (by omega),(HB2.out.trans (HB3.out.mono (by omega))).trans (HB5.out.mono (by omega))⟩
end
section
open Go.RowKit
theorem iX{α:Type}(p:α->Bool)(l:List α)(k:Nat)(h:k<l.length):(l.take (k+1)).all p=((l.take k).all p&&p l[k]):=by
 rw[List.take_succ_eq_append_getElem h,List.all_append]
 simp
theorem eg(es:List Ent)(k:Nat)(h:k<es.length):((es.take (k+1)).map Fr.entB).flatten=((es.take k).map Fr.entB).flatten++Fr.entB es[k]:=Sch.flatten_take Fr.entB es k h
theorem oJ(x:Idx)(hx:Fr.i64 x.at_∧Fr.i64 x.frames∧Fr.i64 x.rows)(hE:∀e∈x.entries,Fr.i64 e.at_∧Fr.i64 e.row∧Fr.i64 e.sch)(ep:OA)(ec:Nat)(w:World)(hl:x.entries.length*24<=140737488351232)(hes:cQ w ep x.entries):
    Calls Tryz.prog 205 #[.agg #[.int .i64 x.at_,.int .i64 x.frames,.int .i64 x.rows,.slice ep x.entries.length ec]] w (iY w (Fr.idxErr x) (Fr.nums [x.at_,x.frames,x.rows,(x.entries.length:Int)]++(x.entries.map Fr.entB).flatten)):=by
  obtain⟨a,b,c,es⟩:=x
  dsimp only at *
  obtain⟨w0,hw0⟩:∃w0,w0=(w.alloc (.cells #[.int .i64 a,.int .i64 b,.int .i64 c,.slice ep es.length ec] 128)).alloc (.cells #[.int .i64 a,.int .i64 b,.int .i64 c,.slice ep es.length ec] 34):=⟨_,rfl⟩
  have hz0:w0.1.size=w.1.size+1+1:=by rw[hw0];simp
  have HB0:Hid (Below w.1.size w w0):=by rw[hw0];exact vY.alloc (by simp) _
  have c0:w0.cell? ⟨w.1.size+1,0,none⟩=some (.int .i64 a):=by rw[hw0];simp
  have c1:w0.cell? ⟨w.1.size+1,1,none⟩=some (.int .i64 b):=by rw[hw0];simp
  have c2:w0.cell? ⟨w.1.size+1,2,none⟩=some (.int .i64 c):=by rw[hw0];simp
  have c3:w0.cell? ⟨w.1.size+1,3,none⟩=some (.slice ep es.length ec):=by rw[hw0];simp
  obtain⟨w1,hw1⟩:∃w1,w1=w0.alloc (.cells #[.int .i64 a,.int .i64 b,.int .i64 c] 2):=⟨_,rfl⟩
  have HB01:Hid (Below w0.1.size w0 w1):=by rw[hw1];exact vY
  have HB1:Hid (Below w.1.size w w1):=HB0.out.trans (HB01.out.mono (by omega))
  have hz1:w1.1.size=w.1.size+1+1+1:=by rw[hw1];simp[hz0]
  have d0:=ab HB01.out c0
  have d1:=ab HB01.out c1
  have d2:=ab HB01.out c2
  have d3:=ab HB01.out c3
  have HBl:=vQ (iA 1099511627776 (w.1.size+1+1) [a,b,c] (by simp) w1 (by rw[hw1];exact ints_at hz0 [a,b,c] rfl))
  have e1:[a,b,c].all (Fr.within 1099511627776)=(Fr.within Fr.S a&&Fr.within Fr.S b&&Fr.within Fr.S c):=by simp[Fr.S,Bool.and_assoc]
  rw[e1] at HBl
  have HW:Hid (((w.alloc (.cells #[.int .i64 a,.int .i64 b,.int .i64 c,.slice ep es.length ec] 128)).alloc (.cells #[.int .i64 a,.int .i64 b,.int .i64 c,.slice ep es.length ec] 34)).alloc (.cells #[.int .i64 a,.int .i64 b,.int .i64 c] 2)=w1):=by rw[hw1,hw0];exact rfl
  obtain⟨er,her⟩:∃er,er=Fr.idxErr ⟨a,b,c,es⟩:=⟨_,rfl⟩
  rw[<-her]
  obtain⟨bn,hbn⟩:∃bn,bn=(Fr.within Fr.S a&&Fr.within Fr.S b&&Fr.within Fr.S c):=⟨_,rfl⟩
  rw[<-hbn] at HBl
  have HEr1:Hid (er=if bn=false then 7 else if 64<es.length then 3 else if es.all Fr.entOk=false then 7 else 0):=by
    show _=_
    rw[her,hbn]
    rfl
  have HIn:Hid (bn=true->(0<=a∧0<=b∧0<=c)):=by
    intro h1
    rw[hbn,Bool.and_eq_true,Bool.and_eq_true] at h1
    exact⟨(Fr.within_iff.1 h1.1.1).1,(Fr.within_iff.1 h1.1.2).1,(Fr.within_iff.1 h1.2).1⟩
  have HX:=vQ hx
  have HEs:=vQ hes
  have HEw:=vQ hE
  clear e1 hw0 hw1 her hx hes hE c0 c1 c2 c3 HB01 hbn
  go_enter Tryz.func205,Tryz.ntmps205
  go_wp2_with fail
  rw[HW.out]
  refine HBl.out.mono ?_
  rintro e v ⟨rfl,hw⟩
  rw[hw]
  clear hw v HBl HW
  cases bn with
  |false=>
    have HEr2:Hid (er=7):=HEr1.out
    go_wp2
    go_ret2
    rw[HEr2.out]
    exact aJ (by omega) HB1.out
  |true=>
    have HIn2:=vQ (HIn.out (by simp))
    have HEr2:Hid (er=if 64<es.length then 3 else if es.all Fr.entOk=false then 7 else 0):=HEr1.out
    clear HIn HEr1
    by_cases h64:64<es.length
    · have g1:(64:Int)<(es.length:Int):=by omega
      have HEr3:Hid (er=3):=HEr2.out.trans (if_pos h64)
      clear HEr2 h64
      go_wp2
      go_ret2
      rw[HEr3.out]
      exact aJ (by omega) HB1.out
    have g1:¬(64:Int)<(es.length:Int):=by omega
    have hes64:es.length<=64:=by omega
    have HEr3:Hid (er=if es.all Fr.entOk=false then 7 else 0):=HEr2.out.trans (if_neg h64)
    clear HEr2 h64
    obtain⟨L,hL⟩:∃L:Int,L=(es.length:Int):=⟨_,rfl⟩
    have HP:=vQ (nf w1.1.size [a,b,c,(es.length:Int)] (by simp) (fun m hm=>by
      have h1:=HX.out
      have h2:=HIn2.out
      unfold Fr.i64 at h1
      simp only[List.mem_cons,List.not_mem_nil,or_false] at hm
      omega) (w1.alloc (.cells #[.int .i64 a,.int .i64 b,.int .i64 c,.int .i64 (es.length:Int)] 2)) (cK w1 [a,b,c,(es.length:Int)] rfl))
    have hnl:(Fr.nums [a,b,c,(es.length:Int)]).length<=40:=by
      have h1:=Leb.put_length_le a.toNat
      have h2:=Leb.put_length_le b.toNat
      have h3:=Leb.put_length_le c.toNat
      have h4:=Leb.put_length_le (es.length:Int).toNat
      simp only[Fr.nums_cons,Fr.nums_nil,List.append_nil,List.length_append]
      omega
    obtain⟨ns,hns⟩:∃ns,ns=Fr.nums [a,b,c,(es.length:Int)]:=⟨_,rfl⟩
    rw[<-hns] at HP hnl ⊢
    rw[hz1] at HP
    have HNs:=vQ hns
    clear hns hL L
    have HB12:Hid (Below w1.1.size w1 (w1.alloc (.cells #[.int .i64 a,.int .i64 b,.int .i64 c,.int .i64 (es.length:Int)] 2))):=vY
    go_wp2_with fail
    refine HP.out.mono ?_
    rintro e w2 ⟨p2,cap2,rfl,hh,hb⟩
    have HB2:=vQ (HB12.out.trans (hb.mono HB12.out.size))
    have x3:=ab HB2.out d3
    have HH2:=vQ (hh.lower (B':=w1.1.size) HB12.out.size)
    have HBw2:=vQ (HB1.out.trans (HB2.out.mono (by omega)))
    have hs2:=HB2.out.size
    clear hh hb HP HB12 d0 d1 d2 d3
    go_wp2_with fail
    go_loopw [5,37] (fun v5 v37 wr=>∃(k:Nat) (xs:L8),k<=es.length∧v37=.int .i64 k∧xs.length<=40+30*k∧Hid (xs=ns++((es.take k).map Fr.entB).flatten∧(es.take k).all Fr.entOk=true∧Has wr w1.1.size v5 xs∧Below w1.1.size w1 wr)) (fun _ v37 _=>es.length-(intOf v37).toNat)
    case atStart=>exact⟨0,ns,by omega,rfl,by omega,by simp,rfl,HH2.out,HB2.out⟩
    case round=>
      obtain⟨k,xs,hk,rfl,hxl,HK⟩:=hrel
      have HO:=vQ HK.out.2.2.1
      have HBr:=vQ HK.out.2.2.2
      have HXs:=vQ HK.out.1
      have HAl:=vQ HK.out.2.1
      have hsr:=HBr.out.size
      by_cases hlt:k<es.length
      · have hlt':(k:Int)<(es.length:Int):=by omega
        obtain⟨bb,ob,hep,hbb,a0,a1,a2⟩:=(HEs.out.on (HB1.out.trans (HBr.out.mono (by omega)))) k hlt
        obtain⟨u0,u1,u2⟩:=HEw.out es[k] (List.getElem_mem hlt)
        subst hep
        obtain⟨ea,hea⟩:∃ea,ea=es[k].at_:=⟨_,rfl⟩
        obtain⟨eb,heb⟩:∃eb,eb=es[k].row:=⟨_,rfl⟩
        obtain⟨eC,hec⟩:∃eC,eC=es[k].sch:=⟨_,rfl⟩
        rw[<-hea] at a0 u0
        rw[<-heb] at a1 u1
        rw[<-hec] at a2 u2
        unfold Fr.i64 at u0 u1 u2
        have HA1:=vQ (iX Fr.entOk es k hlt)
        have HE1:=vQ (eg es k hlt)
        have HOk:Hid (Fr.entOk es[k]=[ea,eb,eC].all (Fr.within 1099511627776)):=by
          show _=_
          unfold Fr.entOk
          rw[hea,heb,hec]
          simp[Fr.S,Bool.and_assoc]
        have HEb:Hid (Fr.entB es[k]=Fr.nums [ea,eb,eC]):=by
          show _=_
          rw[hea,heb,hec]
          rfl
        obtain⟨wa,hwa⟩:∃wa,wa=wr.alloc (.cells #[.int .i64 ea,.int .i64 eb,.int .i64 eC] 64):=⟨_,rfl⟩
        have hza:wa.1.size=wr.1.size+1:=by rw[hwa];simp
        have HBa:Hid (Below wr.1.size wr wa):=by rw[hwa];exact vY
        have y0:wa.cell? ⟨wr.1.size,0,none⟩=some (.int .i64 ea):=by rw[hwa];simp
        have y1:wa.cell? ⟨wr.1.size,1,none⟩=some (.int .i64 eb):=by rw[hwa];simp
        have y2:wa.cell? ⟨wr.1.size,2,none⟩=some (.int .i64 eC):=by rw[hwa];simp
        obtain⟨wb,hwb⟩:∃wb,wb=wa.alloc (.cells #[.int .i64 ea,.int .i64 eb,.int .i64 eC] 2):=⟨_,rfl⟩
        have HBb:Hid (Below wa.1.size wa wb):=by rw[hwb];exact vY
        have HBrb:Hid (Below wr.1.size wr wb):=HBa.out.trans (HBb.out.mono (by omega))
        have z0:=ab HBb.out y0
        have z1:=ab HBb.out y1
        have z2:=ab HBb.out y2
        have HBl:=vQ (iA 1099511627776 (wr.1.size+1) [ea,eb,eC] (by simp) wb (by rw[hwb];exact ints_at hza [ea,eb,eC] rfl))
        have HW:Hid ((wr.alloc (.cells #[.int .i64 ea,.int .i64 eb,.int .i64 eC] 64)).alloc (.cells #[.int .i64 ea,.int .i64 eb,.int .i64 eC] 2)=wb):=by rw[hwb,hwa];exact rfl
        obtain⟨ok,hok⟩:∃ok,ok=[ea,eb,eC].all (Fr.within 1099511627776):=⟨_,rfl⟩
        have HIe:Hid (ok=true->0<=ea∧0<=eb∧0<=eC):=by
          intro h
          rw[hok] at h
          simp only[List.all_cons,List.all_nil,Bool.and_eq_true,Fr.within_iff] at h
          omega
        rw[<-hok] at HBl HOk
        clear hwa hwb y0 y1 y2 hea heb hec hok HK
        go_wp2_with fail
        rw[HW.out]
        refine HBl.out.mono ?_
        rintro e v ⟨rfl,hw⟩
        rw[hw]
        clear hw v HBl HW
        cases ok with
        |false=>
          have HEr4:Hid (er=7):=by
            show _=_
            rw[HEr3.out,if_pos]
            rw[List.all_eq_false]
            exact⟨es[k],List.getElem_mem hlt,by rw[HOk.out];decide⟩
          go_wp2
          go_ret2
          rw[HEr4.out]
          exact aJ (by omega) (HB1.out.trans ((HBr.out.trans (HBrb.out.mono hsr)).mono (by omega)))
        |true=>
          have HIe2:=vQ (HIe.out (by simp))
          clear HIe
          have hsb:=HBrb.out.size
          have HP:=vQ (nf wb.1.size [ea,eb,eC] (by simp) (fun m hm=>by
            have h2:=HIe2.out
            simp only[List.mem_cons,List.not_mem_nil,or_false] at hm
            omega) (wb.alloc (.cells #[.int .i64 ea,.int .i64 eb,.int .i64 eC] 2)) (cK wb [ea,eb,eC] rfl))
          have HBc:Hid (Below wb.1.size wb (wb.alloc (.cells #[.int .i64 ea,.int .i64 eb,.int .i64 eC] 2))):=vY
          have hul:(Fr.nums [ea,eb,eC]).length<=30:=by
            have h1:=Leb.put_length_le ea.toNat
            have h2:=Leb.put_length_le eb.toNat
            have h3:=Leb.put_length_le eC.toNat
            simp only[Fr.nums_cons,Fr.nums_nil,List.append_nil,List.length_append]
            omega
          obtain⟨u,hu⟩:∃u,u=Fr.nums [ea,eb,eC]:=⟨_,rfl⟩
          rw[<-hu] at HP hul HEb
          clear hu
          go_wp2_with fail
          refine HP.out.mono ?_
          rintro e w4 ⟨p4,cap4,rfl,hh,hb⟩
          have HB4:=vQ (HBc.out.trans (hb.mono HBc.out.size))
          have HBr4:=vQ (HBrb.out.trans (HB4.out.mono (by omega)))
          have HA4:Hid (At w4 p4 u):=by
            obtain⟨p',c',he,ha,-⟩:=hh.at
            injection he with e1
            subst e1
            exact ha
          have hs4:=HBr4.out.size
          clear hh hb HP HBc
          go_wp2_with (first
            | (at_builtin
               refine au (HO.out.on HBr4.out) HA4.out (by omega) (by omega) rfl rfl rfl rfl rfl ?_
               intro ys q5 cap5 W HY hh ha hk2
               have HB5:=vQ (ar ha (HO.out.on HBr4.out) (by omega))
               have HYs:=vQ hh
               have hyl:ys.length<=40+30*(k+1):=by rw[HY.out,List.length_append];omega
               clear ha hk2 hh)
            |fail)
          go_roundw
          case rel=>
            refine⟨k+1,ys,by omega,by go_num,hyl,?_,?_,HYs.out,(HBr.out.trans (HBr4.out.mono hsr)).trans HB5.out⟩
            · rw[HY.out,HXs.out,HE1.out,HEb.out,List.append_assoc]
            · rw[HA1.out,HAl.out,HOk.out];rfl
          case measure=>simp[intOf];omega
      · have hkk:k=es.length:=by omega
        subst hkk
        have HEr4:Hid (er=0):=by
          show _=_
          have hall:=HAl.out
          rw[List.take_length] at hall
          rw[HEr3.out,hall]
          rfl
        have HXs2:Hid (ns++(es.map Fr.entB).flatten=xs):=by
          show _=_
          rw[HXs.out,List.take_length]
        obtain⟨p5,c5,rfl,-,-⟩:=HO.out.at
        clear HK
        go_wp2
        go_ret2
        have e:Fr.nums [a,b,c,(es.length:Int)]++(es.map Fr.entB).flatten=xs:=by rw[<-HNs.out,HXs2.out]
        rw[e]
        exact .inl ⟨HEr4.out,p5,c5,rfl,HO.out.lower (by omega),HB1.out.trans (HBr.out.mono (by omega))⟩
end
section
open Go.RowKit
theorem mI(n:Int)(sp:OA)(sn sc:Nat)(q fi r:Int)(bp:OA)(bn bc:Nat)(ia ib ic:Int)(ep:OA)(en ec:Nat)(w:World):
  Calls Tryz.prog 52 #[.agg #[.int .i64 1,.int .i64 n,.slice sp sn sc,.int .i64 q,.int .i64 fi,.int .i64 r,.slice bp bn bc,.int .i64 ia,.int .i64 ib,.int .i64 ic,.slice ep en ec]] w fun e w'=>e=.returned (.tuple #[.iface 124 (.agg #[.int .i64 n,.slice sp sn sc]),.bool true])∧Below w.1.size w w':=by
 have HB:Hid (∀o,Below w.1.size w (w.alloc o)):=fun o=>vY
 go_enter Tryz.func52,Tryz.ntmps52
 go_wp2
 go_ret2
 exact⟨rfl,HB.out _⟩
theorem mH(n:Int)(sp:OA)(sn sc:Nat)(q fi r:Int)(bp:OA)(bn bc:Nat)(ia ib ic:Int)(ep:OA)(en ec:Nat)(w:World):
  Calls Tryz.prog 52 #[.agg #[.int .i64 2,.int .i64 n,.slice sp sn sc,.int .i64 q,.int .i64 fi,.int .i64 r,.slice bp bn bc,.int .i64 ia,.int .i64 ib,.int .i64 ic,.slice ep en ec]] w fun e w'=>e=.returned (.tuple #[.iface 126 (.agg #[.int .i64 n,.int .i64 q,.int .i64 fi,.int .i64 r,.slice bp bn bc]),.bool true])∧Below w.1.size w w':=by
 have HB:Hid (∀o,Below w.1.size w (w.alloc o)):=fun o=>vY
 go_enter Tryz.func52,Tryz.ntmps52
 go_wp2
 go_ret2
 exact⟨rfl,HB.out _⟩
theorem mG(n:Int)(sp:OA)(sn sc:Nat)(q fi r:Int)(bp:OA)(bn bc:Nat)(ia ib ic:Int)(ep:OA)(en ec:Nat)(w:World):
  Calls Tryz.prog 52 #[.agg #[.int .i64 3,.int .i64 n,.slice sp sn sc,.int .i64 q,.int .i64 fi,.int .i64 r,.slice bp bn bc,.int .i64 ia,.int .i64 ib,.int .i64 ic,.slice ep en ec]] w fun e w'=>e=.returned (.tuple #[.iface 128 (.agg #[.int .i64 ia,.int .i64 ib,.int .i64 ic,.slice ep en ec]),.bool true])∧Below w.1.size w w':=by
 have HB:Hid (∀o,Below w.1.size w (w.alloc o)):=fun o=>vY
 go_enter Tryz.func52,Tryz.ntmps52
 go_wp2
 go_ret2
 exact⟨rfl,HB.out _⟩
theorem mJ(k:Int)(h1:k≠1)(h2:k≠2)(h3:k≠3)(n:Int)(sp:OA)(sn sc:Nat)(q fi r:Int)(bp:OA)(bn bc:Nat)(ia ib ic:Int)(ep:OA)(en ec:Nat)(w:World):
  Calls Tryz.prog 52 #[.agg #[.int .i64 k,.int .i64 n,.slice sp sn sc,.int .i64 q,.int .i64 fi,.int .i64 r,.slice bp bn bc,.int .i64 ia,.int .i64 ib,.int .i64 ic,.slice ep en ec]] w fun e w'=>e=.returned (.tuple #[.nilIface,.bool false])∧Below w.1.size w w':=by
 have HB:Hid (∀o,Below w.1.size w (w.alloc o)):=fun o=>vY
 have g1:(k==1)=false:=aH h1
 have g2:(k==2)=false:=aH h2
 have g3:(k==3)=false:=aH h3
 clear h1 h2 h3
 go_enter Tryz.func52,Tryz.ntmps52
 go_wp2
 go_ret2
 exact⟨rfl,HB.out _⟩
end
section
open Go.RowKit
def bR(f:Fr):Nat:=if f.kind=1 then cX f.number f.cols else if f.kind=2 then dM f.number f.seq f.first f.rows f.block else Fr.idxErr f.index
theorem ff(l:List Int):(Fr.nums l).length<=10*l.length:=by
 induction l with
 |nil=>simp[Fr.nums_nil]
 |cons n l ih=>
  rw[Fr.nums_cons,List.length_append,List.length_cons]
  have:=Leb.put_length_le n.toNat
  omega
theorem qX(es:List Ent):(es.map Fr.entB).flatten.length<=es.length*30:=Sch.flatten_le Fr.entB 30 es (fun e _=>ff [e.at_,e.row,e.sch])
theorem jx{f:Fr}(hk:f.kind=2):f.block.length<(Fr.run f).length:=by
 have h1:=(Cob.stuff_length (Fr.check (Fr.head f))).1
 have h2:f.block.length<=(Fr.head f).length:=by
  unfold Fr.head Fr.fields
  rw[if_neg (by omega),if_pos hk,List.length_cons,List.length_append]
  omega
 rw[Fr.check_length] at h1
 unfold Fr.run
 omega
theorem jI{f:Fr}(hk:f.kind=1∨f.kind=2∨f.kind=3)(h:bR f≠0):Fr.err f=bR f:=by
 rcases hk with hk | hk | hk
 ·have e:Fr.err0 f=cX f.number f.cols:=by unfold Fr.err0;rw[if_pos hk];rfl
  have e2:bR f=cX f.number f.cols:=by unfold bR;rw[if_pos hk]
  rw[e2] at h ⊢
  unfold Fr.err
  rw[e,if_pos h]
 ·have e:Fr.err0 f=if (Fr.within Fr.N f.number&&Fr.within Fr.S f.seq&&Fr.within Fr.S f.first&&decide (1<=f.rows∧f.rows<=64))=false then 7 else 0:=by unfold Fr.err0;rw[if_neg (by omega),if_pos hk]
  have e2:bR f=dM f.number f.seq f.first f.rows f.block:=by unfold bR;rw[if_neg (by omega),if_pos hk]
  rw[e2] at h ⊢
  unfold Fr.err
  unfold dM at h ⊢
  by_cases h7:(Fr.within Fr.N f.number&&Fr.within Fr.S f.seq&&Fr.within Fr.S f.first&&decide (1<=f.rows∧f.rows<=64))=false
  ·rw[e,if_pos h7,if_pos h7,if_pos (by omega)]
  ·rw[if_neg h7] at h ⊢
   by_cases h2:2200<f.block.length
   ·have:=jx hk
    rw[e,if_neg h7,if_neg (by omega),if_pos h2,if_pos (by omega)]
   ·rw[if_neg h2] at h
    omega
 ·have e:Fr.err0 f=Fr.idxErr f.index:=by unfold Fr.err0;rw[if_neg (by omega),if_neg (by omega),if_pos hk]
  have e2:bR f=Fr.idxErr f.index:=by unfold bR;rw[if_neg (by omega),if_neg (by omega)]
  rw[e2] at h ⊢
  unfold Fr.err
  rw[e,if_pos h]
theorem mN{f:Fr}(hk:f.kind=1∨f.kind=2∨f.kind=3)(h:bR f=0):Fr.err f=(if 2200<(Fr.run f).length then 2 else 0)∧(Fr.fields f).length<=5000:=by
 unfold bR at h
 unfold Fr.err
 rcases hk with hk | hk | hk
 ·have e:Fr.err0 f=cX f.number f.cols:=by unfold Fr.err0;rw[if_pos hk];rfl
  rw[if_pos hk] at h
  refine⟨by rw[e,if_neg (by omega)],?_⟩
  unfold cX at h
  split at h
  ·omega
  ·have h1:=(Sch.err_open h).2.2.2
   have h2:=ff [f.number]
   unfold Fr.fields
   rw[if_pos hk,List.length_append]
   simp at h2
   omega
 ·rw[if_neg (by omega),if_pos hk] at h
  have e:Fr.err0 f=if (Fr.within Fr.N f.number&&Fr.within Fr.S f.seq&&Fr.within Fr.S f.first&&decide (1<=f.rows∧f.rows<=64))=false then 7 else 0:=by unfold Fr.err0;rw[if_neg (by omega),if_pos hk]
  unfold dM at h
  by_cases h7:(Fr.within Fr.N f.number&&Fr.within Fr.S f.seq&&Fr.within Fr.S f.first&&decide (1<=f.rows∧f.rows<=64))=false
  ·rw[if_pos h7] at h;omega
  ·rw[if_neg h7] at h
   by_cases h2:2200<f.block.length
   ·rw[if_pos h2] at h;omega
   ·refine⟨by rw[e,if_neg h7,if_neg (by omega)],?_⟩
    have h3:=ff [f.number,f.seq,f.first,f.rows]
    unfold Fr.fields
    rw[if_neg (by omega),if_pos hk,List.length_append]
    simp at h3
    omega
 ·have e:Fr.err0 f=Fr.idxErr f.index:=by unfold Fr.err0;rw[if_neg (by omega),if_neg (by omega),if_pos hk]
  rw[if_neg (by omega),if_neg (by omega)] at h
  refine⟨by rw[e,if_neg (by omega)],?_⟩
  have h64:f.index.entries.length<=64:=by
   unfold Fr.idxErr at h
   split at h
   ·omega
   ·split at h
    ·omega
    ·omega
  have h3:=ff [f.index.at_,f.index.frames,f.index.rows,(f.index.entries.length:Int)]
  have h4:=qX f.index.entries
  unfold Fr.fields
  rw[if_neg (by omega),if_neg (by omega),List.length_append]
  simp at h3
  omega
theorem mE{w:World}{B:Nat}{p:OA}{n c:Nat}{l:L8}(h:Has w B (.slice p n c) l):At w p l∧l.length<=c:=by
 obtain⟨p',c',he,ha,hc⟩:=h.at
 injection he with e1 e2 e3
 subst e1 e3
 exact⟨ha,hc⟩
theorem oZ(f:Fr)(hk:f.kind=1)(hw:f.wf)(u:AV)(w:World)(hv:Hv w)(h:aB w u f):
    Calls Tryz.prog 20 #[.agg u] w (iY w (Fr.err f) (0::(Fr.run f++[0]))):=by
  obtain⟨sp,sc,bp,bc,ep,ec,rfl,h1,h2,h3,h4,h5,h6,h7,h8,h9⟩:=h.out
  unfold av
  obtain⟨er,her⟩:∃er,er=Fr.err f:=⟨_,rfl⟩
  obtain⟨rn,hrn⟩:∃rn,rn=Fr.run f:=⟨_,rfl⟩
  rw[<-her,<-hrn]
  have HEr:=vQ her
  have HRn:=vQ hrn
  have HKd:=vQ hk
  have HWf:=vQ hw
  have HCo:=vQ h3
  have HAt:=vQ h6
  have HEn:=vQ h9
  have HHv:=vQ hv
  have HFe:Hid (bR f=cX f.number f.cols):=by show _=_;unfold bR;rw[if_pos hk]
  have HFf:Hid (Fr.head f=1::(Fr.nums [f.number]++Sch.bytes f.cols)):=by
    show _=_
    unfold Fr.head Fr.fields
    rw[if_pos hk]
    rw[hk]
    rfl
  rw[hk]
  obtain⟨w0,hw0⟩:∃w0,w0=w.alloc (.cells #[.int .i64 1,.int .i64 f.number,.slice sp f.cols.length sc,.int .i64 f.seq,.int .i64 f.first,.int .i64 f.rows,.slice bp f.block.length bc,.int .i64 f.index.at_,.int .i64 f.index.frames,.int .i64 f.index.rows,.slice ep f.index.entries.length ec] 36):=⟨_,rfl⟩
  have hz0:w0.1.size=w.1.size+1:=by rw[hw0];simp
  have HB0:Hid (Below w.1.size w w0):=by rw[hw0];exact vY
  have c0:w0.cell? ⟨w.1.size,0,none⟩=some (.int .i64 1):=by rw[hw0];simp
  have HW:Hid (w.alloc (.cells #[.int .i64 1,.int .i64 f.number,.slice sp f.cols.length sc,.int .i64 f.seq,.int .i64 f.first,.int .i64 f.rows,.slice bp f.block.length bc,.int .i64 f.index.at_,.int .i64 f.index.frames,.int .i64 f.index.rows,.slice ep f.index.entries.length ec] 36)=w0):=by rw[hw0];exact rfl
  have HF:=vQ (mI f.number sp f.cols.length sc f.seq f.first f.rows bp f.block.length bc f.index.at_ f.index.frames f.index.rows ep f.index.entries.length ec w0)
  clear her hrn hk hw h3 h6 h9 hv h hw0
  go_enter Tryz.func20,Tryz.ntmps20
  go_wp2_with fail
  rw[HW.out]
  refine HF.out.mono ?_
  rintro e w1 ⟨rfl,hb⟩
  have HB1:=vQ (HB0.out.trans (hb.mono (by omega)))
  have c1:=ab hb c0
  have hs1:=hb.size
  clear hb HF HW c0
  have HE:=vQ (lN f.number HWf.out.2.1 f.cols sp sc w1 h1 (HCo.out.on HB1.out) HWf.out.2.2.1)
  obtain⟨e0,he0⟩:∃e0,e0=cX f.number f.cols:=⟨_,rfl⟩
  obtain⟨l0,hl0⟩:∃l0,l0=(Fr.nums [f.number]++Sch.bytes f.cols):=⟨_,rfl⟩
  rw[<-he0,<-hl0] at HE
  rw[<-he0] at HFe
  rw[<-hl0] at HFf
  clear he0 hl0
  go_wp2_with fail
  refine HE.out.mono ?_
  rintro e w2 (⟨hz,q,cap,rfl,hh,hb⟩ | ⟨hz,rfl,hb⟩)
  · have HB2:=vQ (HB1.out.trans (hb.mono (by omega)))
    have c2:=ab hb c1
    have hs2:=HB2.out.size
    have HA2:=vQ (mE hh).1
    have hok:=mN (f:=f) (by have:=HKd.out;omega) (HFe.out.trans hz)
    have hl5:l0.length<=5000:=by
      have h1:(Fr.head f).length=l0.length+1:=by rw[HFf.out];rfl
      have h2:(Fr.head f).length=(Fr.fields f).length+1:=rfl
      have:=hok.2
      omega
    have HOk:=vQ hok.1
    have HL:Hid (Has (w2.alloc (.cells #[.int .u8 1] 5)) w2.1.size (.slice (some ⟨w2.1.size,0,none⟩) 1 1) [1]):=bF (B:=w2.1.size) [1] rfl vX (by decide)
    have HBl:Hid (Below w2.1.size w2 (w2.alloc (.cells #[.int .u8 1] 5))):=vY
    have HA3:=vQ (HA2.out.on HBl.out)
    clear hh hb HE hz hok HFe c1 hs1
    go_wp2_with (first
      | (at_builtin
         refine au (xs:=[1]) HL.out HA3.out (by simp;omega) (by simp) rfl rfl rfl rfl rfl ?_
         intro ys q3 cap3 W HY hh ha hk2
         have HB4:=vQ (HBl.out.trans (ar ha HL.out (by simp)))
         have HYs:=vQ hh
         clear ha hk2 hh)
      |fail)
    have hyh:ys=Fr.head f:=by rw[HY.out,HFf.out];rfl
    have hyl:ys.length<=5001:=by rw[hyh,HFf.out,List.length_cons];omega
    have HRy:Hid (rn=Cob.stuff (Fr.check ys)):=by show _=_;rw[HRn.out,hyh];rfl
    have hs4:=HB4.out.size
    have c4:=ab HB4.out c2
    refine(pD w2.1.size q3 cap3 ys (by omega) W (HHv.out.next (HB2.out.trans (HB4.out.mono hs2))) HYs.out hs4).mono ?_
    rintro e w5 ⟨g5,o5,cap5,rfl,hF,hg5,hc5,hb⟩
    rw[<-HRy.out] at hF hc5 ⊢
    have HB5:=vQ ((HB2.out.trans (HB4.out.mono hs2)).trans (hb.mono hs2))
    have hs5:=HB5.out.size
    have HFr:=vQ hF
    have HR2:Hid (er=if 2200<rn.length then 2 else 0):=by show _=_;rw[HEr.out,HOk.out,HRn.out]
    clear hyh hF hb c2 c4 HYs HOk HA2 HA3 HL HBl HB4
    by_cases h22:2200<rn.length
    · have g2:(2200:Int)<(rn.length:Int):=by omega
      have HR3:Hid (er=2):=HR2.out.trans (if_pos h22)
      clear HR2 h22
      go_wp2
      go_ret2
      rw[HR3.out]
      exact aJ (by omega) HB5.out
    · have g2:¬(2200:Int)<(rn.length:Int):=by omega
      have HR3:Hid (er=0):=HR2.out.trans (if_neg h22)
      clear HR2
      have HL6:Hid (Has (w5.alloc (.cells #[.int .u8 0] 5)) w5.1.size (.slice (some ⟨w5.1.size,0,none⟩) 1 1) [0]):=bF (B:=w5.1.size) [0] rfl vX (by decide)
      have HBl6:Hid (Below w5.1.size w5 (w5.alloc (.cells #[.int .u8 0] 5))):=vY
      have HA6:=vQ (HFr.out.at.on HBl6.out)
      go_wp2_with (first
        | (at_builtin
           refine au (xs:=[0]) HL6.out HA6.out (by simp;omega) (by simp) rfl rfl rfl rfl rfl ?_
           intro zs q7 cap7 W7 HZ hh ha hk2
           have HB7:=vQ (HBl6.out.trans (ar ha HL6.out (by simp)))
           have HZs:=vQ hh
           have hs7:=HB7.out.size
           have hzl:zs.length<=2300:=by rw[HZ.out,List.length_append,List.length_singleton];omega
           clear ha hk2 hh)
        | (at_builtin
           refine aV HZs.out 0 (by omega) hs7 rfl rfl rfl rfl rfl rfl ?_
           intro g8 cap8 W8 hm hb8
           have HM8:=vQ hm
           have HB8:=vQ hb8
           clear hm hb8)
        |fail)
      go_ret2
      have ez:0::(rn++[0])=zs++[0]:=by rw[HZ.out];rfl
      have el:(zs++[0]).length=zs.length+1:=by simp
      rw[ez]
      refine .inl ⟨HR3.out,some ⟨g8,0,none⟩,cap8,by rw[el];rfl,(bh.has HM8.out).lower hs5,HB5.out.trans ((HB7.out.trans HB8.out).mono hs5)⟩
  · have HB2:=vQ (HB1.out.trans (hb.mono (by omega)))
    have hbad:=jI (f:=f) (by have:=HKd.out;omega) (by rw[HFe.out];exact hz)
    have HR2:Hid (er=e0):=by show _=_;rw[HEr.out,hbad,HFe.out]
    have g2:((e0:Int) != 0)=true:=by rw[bne_iff_ne];omega
    have HNz:=vQ hz
    clear hb hbad HE HFe hz
    go_wp2
    go_ret2
    rw[HR2.out]
    exact aJ HNz.out HB2.out
theorem oY(f:Fr)(hk:f.kind=2)(hw:f.wf)(u:AV)(w:World)(hv:Hv w)(h:aB w u f):
    Calls Tryz.prog 20 #[.agg u] w (iY w (Fr.err f) (0::(Fr.run f++[0]))):=by
  obtain⟨sp,sc,bp,bc,ep,ec,rfl,h1,h2,h3,h4,h5,h6,h7,h8,h9⟩:=h.out
  unfold av
  obtain⟨er,her⟩:∃er,er=Fr.err f:=⟨_,rfl⟩
  obtain⟨rn,hrn⟩:∃rn,rn=Fr.run f:=⟨_,rfl⟩
  rw[<-her,<-hrn]
  have HEr:=vQ her
  have HRn:=vQ hrn
  have HKd:=vQ hk
  have HWf:=vQ hw
  have HCo:=vQ h3
  have HAt:=vQ h6
  have HEn:=vQ h9
  have HHv:=vQ hv
  have HFe:Hid (bR f=dM f.number f.seq f.first f.rows f.block):=by show _=_;unfold bR;rw[if_neg (by omega),if_pos hk]
  have HFf:Hid (Fr.head f=2::(Fr.nums [f.number,f.seq,f.first,f.rows]++f.block)):=by
    show _=_
    unfold Fr.head Fr.fields
    rw[if_neg (by omega),if_pos hk]
    rw[hk]
    rfl
  rw[hk]
  obtain⟨w0,hw0⟩:∃w0,w0=w.alloc (.cells #[.int .i64 2,.int .i64 f.number,.slice sp f.cols.length sc,.int .i64 f.seq,.int .i64 f.first,.int .i64 f.rows,.slice bp f.block.length bc,.int .i64 f.index.at_,.int .i64 f.index.frames,.int .i64 f.index.rows,.slice ep f.index.entries.length ec] 36):=⟨_,rfl⟩
  have hz0:w0.1.size=w.1.size+1:=by rw[hw0];simp
  have HB0:Hid (Below w.1.size w w0):=by rw[hw0];exact vY
  have c0:w0.cell? ⟨w.1.size,0,none⟩=some (.int .i64 2):=by rw[hw0];simp
  have HW:Hid (w.alloc (.cells #[.int .i64 2,.int .i64 f.number,.slice sp f.cols.length sc,.int .i64 f.seq,.int .i64 f.first,.int .i64 f.rows,.slice bp f.block.length bc,.int .i64 f.index.at_,.int .i64 f.index.frames,.int .i64 f.index.rows,.slice ep f.index.entries.length ec] 36)=w0):=by rw[hw0];exact rfl
  have HF:=vQ (mH f.number sp f.cols.length sc f.seq f.first f.rows bp f.block.length bc f.index.at_ f.index.frames f.index.rows ep f.index.entries.length ec w0)
  clear her hrn hk hw h3 h6 h9 hv h hw0
  go_enter Tryz.func20,Tryz.ntmps20
  go_wp2_with fail
  rw[HW.out]
  refine HF.out.mono ?_
  rintro e w1 ⟨rfl,hb⟩
  have HB1:=vQ (HB0.out.trans (hb.mono (by omega)))
  have c1:=ab hb c0
  have hs1:=hb.size
  clear hb HF HW c0
  have HE:=vQ (rj f.number f.seq f.first f.rows HWf.out.2.1 HWf.out.2.2.2.1 HWf.out.2.2.2.2.1 HWf.out.2.2.2.2.2.1 f.block bp bc w1 h4 (HAt.out.on HB1.out))
  obtain⟨e0,he0⟩:∃e0,e0=dM f.number f.seq f.first f.rows f.block:=⟨_,rfl⟩
  obtain⟨l0,hl0⟩:∃l0,l0=(Fr.nums [f.number,f.seq,f.first,f.rows]++f.block):=⟨_,rfl⟩
  rw[<-he0,<-hl0] at HE
  rw[<-he0] at HFe
  rw[<-hl0] at HFf
  clear he0 hl0
  go_wp2_with fail
  refine HE.out.mono ?_
  rintro e w2 (⟨hz,q,cap,rfl,hh,hb⟩ | ⟨hz,rfl,hb⟩)
  · have HB2:=vQ (HB1.out.trans (hb.mono (by omega)))
    have c2:=ab hb c1
    have hs2:=HB2.out.size
    have HA2:=vQ (mE hh).1
    have hok:=mN (f:=f) (by have:=HKd.out;omega) (HFe.out.trans hz)
    have hl5:l0.length<=5000:=by
      have h1:(Fr.head f).length=l0.length+1:=by rw[HFf.out];rfl
      have h2:(Fr.head f).length=(Fr.fields f).length+1:=rfl
      have:=hok.2
      omega
    have HOk:=vQ hok.1
    have HL:Hid (Has (w2.alloc (.cells #[.int .u8 2] 5)) w2.1.size (.slice (some ⟨w2.1.size,0,none⟩) 1 1) [2]):=bF (B:=w2.1.size) [2] rfl vX (by decide)
    have HBl:Hid (Below w2.1.size w2 (w2.alloc (.cells #[.int .u8 2] 5))):=vY
    have HA3:=vQ (HA2.out.on HBl.out)
    clear hh hb HE hz hok HFe c1 hs1
    go_wp2_with (first
      | (at_builtin
         refine au (xs:=[2]) HL.out HA3.out (by simp;omega) (by simp) rfl rfl rfl rfl rfl ?_
         intro ys q3 cap3 W HY hh ha hk2
         have HB4:=vQ (HBl.out.trans (ar ha HL.out (by simp)))
         have HYs:=vQ hh
         clear ha hk2 hh)
      |fail)
    have hyh:ys=Fr.head f:=by rw[HY.out,HFf.out];rfl
    have hyl:ys.length<=5001:=by rw[hyh,HFf.out,List.length_cons];omega
    have HRy:Hid (rn=Cob.stuff (Fr.check ys)):=by show _=_;rw[HRn.out,hyh];rfl
    have hs4:=HB4.out.size
    have c4:=ab HB4.out c2
    refine(pD w2.1.size q3 cap3 ys (by omega) W (HHv.out.next (HB2.out.trans (HB4.out.mono hs2))) HYs.out hs4).mono ?_
    rintro e w5 ⟨g5,o5,cap5,rfl,hF,hg5,hc5,hb⟩
    rw[<-HRy.out] at hF hc5 ⊢
    have HB5:=vQ ((HB2.out.trans (HB4.out.mono hs2)).trans (hb.mono hs2))
    have hs5:=HB5.out.size
    have HFr:=vQ hF
    have HR2:Hid (er=if 2200<rn.length then 2 else 0):=by show _=_;rw[HEr.out,HOk.out,HRn.out]
    clear hyh hF hb c2 c4 HYs HOk HA2 HA3 HL HBl HB4
    by_cases h22:2200<rn.length
    · have g2:(2200:Int)<(rn.length:Int):=by omega
      have HR3:Hid (er=2):=HR2.out.trans (if_pos h22)
      clear HR2 h22
      go_wp2
      go_ret2
      rw[HR3.out]
      exact aJ (by omega) HB5.out
    · have g2:¬(2200:Int)<(rn.length:Int):=by omega
      have HR3:Hid (er=0):=HR2.out.trans (if_neg h22)
      clear HR2
      have HL6:Hid (Has (w5.alloc (.cells #[.int .u8 0] 5)) w5.1.size (.slice (some ⟨w5.1.size,0,none⟩) 1 1) [0]):=bF (B:=w5.1.size) [0] rfl vX (by decide)
      have HBl6:Hid (Below w5.1.size w5 (w5.alloc (.cells #[.int .u8 0] 5))):=vY
      have HA6:=vQ (HFr.out.at.on HBl6.out)
      go_wp2_with (first
        | (at_builtin
           refine au (xs:=[0]) HL6.out HA6.out (by simp;omega) (by simp) rfl rfl rfl rfl rfl ?_
           intro zs q7 cap7 W7 HZ hh ha hk2
           have HB7:=vQ (HBl6.out.trans (ar ha HL6.out (by simp)))
           have HZs:=vQ hh
           have hs7:=HB7.out.size
           have hzl:zs.length<=2300:=by rw[HZ.out,List.length_append,List.length_singleton];omega
           clear ha hk2 hh)
        | (at_builtin
           refine aV HZs.out 0 (by omega) hs7 rfl rfl rfl rfl rfl rfl ?_
           intro g8 cap8 W8 hm hb8
           have HM8:=vQ hm
           have HB8:=vQ hb8
           clear hm hb8)
        |fail)
      go_ret2
      have ez:0::(rn++[0])=zs++[0]:=by rw[HZ.out];rfl
      have el:(zs++[0]).length=zs.length+1:=by simp
      rw[ez]
      refine .inl ⟨HR3.out,some ⟨g8,0,none⟩,cap8,by rw[el];rfl,(bh.has HM8.out).lower hs5,HB5.out.trans ((HB7.out.trans HB8.out).mono hs5)⟩
  · have HB2:=vQ (HB1.out.trans (hb.mono (by omega)))
    have hbad:=jI (f:=f) (by have:=HKd.out;omega) (by rw[HFe.out];exact hz)
    have HR2:Hid (er=e0):=by show _=_;rw[HEr.out,hbad,HFe.out]
    have g2:((e0:Int) != 0)=true:=by rw[bne_iff_ne];omega
    have HNz:=vQ hz
    clear hb hbad HE HFe hz
    go_wp2
    go_ret2
    rw[HR2.out]
    exact aJ HNz.out HB2.out
theorem oX(f:Fr)(hk:f.kind=3)(hw:f.wf)(u:AV)(w:World)(hv:Hv w)(h:aB w u f):
    Calls Tryz.prog 20 #[.agg u] w (iY w (Fr.err f) (0::(Fr.run f++[0]))):=by
  obtain⟨sp,sc,bp,bc,ep,ec,rfl,h1,h2,h3,h4,h5,h6,h7,h8,h9⟩:=h.out
  unfold av
  obtain⟨er,her⟩:∃er,er=Fr.err f:=⟨_,rfl⟩
  obtain⟨rn,hrn⟩:∃rn,rn=Fr.run f:=⟨_,rfl⟩
  rw[<-her,<-hrn]
  have HEr:=vQ her
  have HRn:=vQ hrn
  have HKd:=vQ hk
  have HWf:=vQ hw
  have HCo:=vQ h3
  have HAt:=vQ h6
  have HEn:=vQ h9
  have HHv:=vQ hv
  have HFe:Hid (bR f=Fr.idxErr f.index):=by show _=_;unfold bR;rw[if_neg (by omega),if_neg (by omega)]
  have HFf:Hid (Fr.head f=3::(Fr.nums [f.index.at_,f.index.frames,f.index.rows,(f.index.entries.length:Int)]++(f.index.entries.map Fr.entB).flatten)):=by
    show _=_
    unfold Fr.head Fr.fields
    rw[if_neg (by omega),if_neg (by omega)]
    rw[hk]
    rfl
  rw[hk]
  obtain⟨w0,hw0⟩:∃w0,w0=w.alloc (.cells #[.int .i64 3,.int .i64 f.number,.slice sp f.cols.length sc,.int .i64 f.seq,.int .i64 f.first,.int .i64 f.rows,.slice bp f.block.length bc,.int .i64 f.index.at_,.int .i64 f.index.frames,.int .i64 f.index.rows,.slice ep f.index.entries.length ec] 36):=⟨_,rfl⟩
  have hz0:w0.1.size=w.1.size+1:=by rw[hw0];simp
  have HB0:Hid (Below w.1.size w w0):=by rw[hw0];exact vY
  have c0:w0.cell? ⟨w.1.size,0,none⟩=some (.int .i64 3):=by rw[hw0];simp
  have HW:Hid (w.alloc (.cells #[.int .i64 3,.int .i64 f.number,.slice sp f.cols.length sc,.int .i64 f.seq,.int .i64 f.first,.int .i64 f.rows,.slice bp f.block.length bc,.int .i64 f.index.at_,.int .i64 f.index.frames,.int .i64 f.index.rows,.slice ep f.index.entries.length ec] 36)=w0):=by rw[hw0];exact rfl
  have HF:=vQ (mG f.number sp f.cols.length sc f.seq f.first f.rows bp f.block.length bc f.index.at_ f.index.frames f.index.rows ep f.index.entries.length ec w0)
  clear her hrn hk hw h3 h6 h9 hv h hw0
  go_enter Tryz.func20,Tryz.ntmps20
  go_wp2_with fail
  rw[HW.out]
  refine HF.out.mono ?_
  rintro e w1 ⟨rfl,hb⟩
  have HB1:=vQ (HB0.out.trans (hb.mono (by omega)))
  have c1:=ab hb c0
  have hs1:=hb.size
  clear hb HF HW c0
  have HE:=vQ (oJ f.index HWf.out.2.2.2.2.2.2.1 HWf.out.2.2.2.2.2.2.2 ep ec w1 h7 (HEn.out.on HB1.out))
  obtain⟨e0,he0⟩:∃e0,e0=Fr.idxErr f.index:=⟨_,rfl⟩
  obtain⟨l0,hl0⟩:∃l0,l0=(Fr.nums [f.index.at_,f.index.frames,f.index.rows,(f.index.entries.length:Int)]++(f.index.entries.map Fr.entB).flatten):=⟨_,rfl⟩
  rw[<-he0,<-hl0] at HE
  rw[<-he0] at HFe
  rw[<-hl0] at HFf
  clear he0 hl0
  go_wp2_with fail
  refine HE.out.mono ?_
  rintro e w2 (⟨hz,q,cap,rfl,hh,hb⟩ | ⟨hz,rfl,hb⟩)
  · have HB2:=vQ (HB1.out.trans (hb.mono (by omega)))
    have c2:=ab hb c1
    have hs2:=HB2.out.size
    have HA2:=vQ (mE hh).1
    have hok:=mN (f:=f) (by have:=HKd.out;omega) (HFe.out.trans hz)
    have hl5:l0.length<=5000:=by
      have h1:(Fr.head f).length=l0.length+1:=by rw[HFf.out];rfl
      have h2:(Fr.head f).length=(Fr.fields f).length+1:=rfl
      have:=hok.2
      omega
    have HOk:=vQ hok.1
    have HL:Hid (Has (w2.alloc (.cells #[.int .u8 3] 5)) w2.1.size (.slice (some ⟨w2.1.size,0,none⟩) 1 1) [3]):=bF (B:=w2.1.size) [3] rfl vX (by decide)
    have HBl:Hid (Below w2.1.size w2 (w2.alloc (.cells #[.int .u8 3] 5))):=vY
    have HA3:=vQ (HA2.out.on HBl.out)
    clear hh hb HE hz hok HFe c1 hs1
    go_wp2_with (first
      | (at_builtin
         refine au (xs:=[3]) HL.out HA3.out (by simp;omega) (by simp) rfl rfl rfl rfl rfl ?_
         intro ys q3 cap3 W HY hh ha hk2
         have HB4:=vQ (HBl.out.trans (ar ha HL.out (by simp)))
         have HYs:=vQ hh
         clear ha hk2 hh)
      |fail)
    have hyh:ys=Fr.head f:=by rw[HY.out,HFf.out];rfl
    have hyl:ys.length<=5001:=by rw[hyh,HFf.out,List.length_cons];omega
    have HRy:Hid (rn=Cob.stuff (Fr.check ys)):=by show _=_;rw[HRn.out,hyh];rfl
    have hs4:=HB4.out.size
    have c4:=ab HB4.out c2
    refine(pD w2.1.size q3 cap3 ys (by omega) W (HHv.out.next (HB2.out.trans (HB4.out.mono hs2))) HYs.out hs4).mono ?_
    rintro e w5 ⟨g5,o5,cap5,rfl,hF,hg5,hc5,hb⟩
    rw[<-HRy.out] at hF hc5 ⊢
    have HB5:=vQ ((HB2.out.trans (HB4.out.mono hs2)).trans (hb.mono hs2))
    have hs5:=HB5.out.size
    have HFr:=vQ hF
    have HR2:Hid (er=if 2200<rn.length then 2 else 0):=by show _=_;rw[HEr.out,HOk.out,HRn.out]
    clear hyh hF hb c2 c4 HYs HOk HA2 HA3 HL HBl HB4
    by_cases h22:2200<rn.length
    · have g2:(2200:Int)<(rn.length:Int):=by omega
      have HR3:Hid (er=2):=HR2.out.trans (if_pos h22)
      clear HR2 h22
      go_wp2
      go_ret2
      rw[HR3.out]
      exact aJ (by omega) HB5.out
    · have g2:¬(2200:Int)<(rn.length:Int):=by omega
      have HR3:Hid (er=0):=HR2.out.trans (if_neg h22)
      clear HR2
      have HL6:Hid (Has (w5.alloc (.cells #[.int .u8 0] 5)) w5.1.size (.slice (some ⟨w5.1.size,0,none⟩) 1 1) [0]):=bF (B:=w5.1.size) [0] rfl vX (by decide)
      have HBl6:Hid (Below w5.1.size w5 (w5.alloc (.cells #[.int .u8 0] 5))):=vY
      have HA6:=vQ (HFr.out.at.on HBl6.out)
      go_wp2_with (first
        | (at_builtin
           refine au (xs:=[0]) HL6.out HA6.out (by simp;omega) (by simp) rfl rfl rfl rfl rfl ?_
           intro zs q7 cap7 W7 HZ hh ha hk2
           have HB7:=vQ (HBl6.out.trans (ar ha HL6.out (by simp)))
           have HZs:=vQ hh
           have hs7:=HB7.out.size
           have hzl:zs.length<=2300:=by rw[HZ.out,List.length_append,List.length_singleton];omega
           clear ha hk2 hh)
        | (at_builtin
           refine aV HZs.out 0 (by omega) hs7 rfl rfl rfl rfl rfl rfl ?_
           intro g8 cap8 W8 hm hb8
           have HM8:=vQ hm
           have HB8:=vQ hb8
           clear hm hb8)
        |fail)
      go_ret2
      have ez:0::(rn++[0])=zs++[0]:=by rw[HZ.out];rfl
      have el:(zs++[0]).length=zs.length+1:=by simp
      rw[ez]
      refine .inl ⟨HR3.out,some ⟨g8,0,none⟩,cap8,by rw[el];rfl,(bh.has HM8.out).lower hs5,HB5.out.trans ((HB7.out.trans HB8.out).mono hs5)⟩
  · have HB2:=vQ (HB1.out.trans (hb.mono (by omega)))
    have hbad:=jI (f:=f) (by have:=HKd.out;omega) (by rw[HFe.out];exact hz)
    have HR2:Hid (er=e0):=by show _=_;rw[HEr.out,hbad,HFe.out]
    have g2:((e0:Int) != 0)=true:=by rw[bne_iff_ne];omega
    have HNz:=vQ hz
    clear hb hbad HE HFe hz
    go_wp2
    go_ret2
    rw[HR2.out]
    exact aJ HNz.out HB2.out
theorem o0(f:Fr)(h1:f.kind≠1)(h2:f.kind≠2)(h3:f.kind≠3)(u:AV)(w:World)(h:aB w u f):
  Calls Tryz.prog 20 #[.agg u] w (iY w (Fr.err f) (0::(Fr.run f++[0]))):=by
 obtain⟨sp,sc,bp,bc,ep,ec,rfl,-⟩:=h.out
 unfold av
 have he:Fr.err f=60:=by
  have h0:Fr.err0 f=60:=by unfold Fr.err0;rw[if_neg h1,if_neg h2,if_neg h3]
  unfold Fr.err
  rw[h0]
  rfl
 rw[he]
 have HB0:Hid (∀o,Below w.1.size w (w.alloc o)):=fun o=>vY
 have HF:=vQ (mJ f.kind h1 h2 h3 f.number sp f.cols.length sc f.seq f.first f.rows bp f.block.length bc f.index.at_ f.index.frames f.index.rows ep f.index.entries.length ec (w.alloc (.cells #[.int .i64 f.kind,.int .i64 f.number,.slice sp f.cols.length sc,.int .i64 f.seq,.int .i64 f.first,.int .i64 f.rows,.slice bp f.block.length bc,.int .i64 f.index.at_,.int .i64 f.index.frames,.int .i64 f.index.rows,.slice ep f.index.entries.length ec] 36)))
 clear h h1 h2 h3 he
 go_enter Tryz.func20,Tryz.ntmps20
 go_wp2_with fail
 refine HF.out.mono ?_
 rintro e w1 ⟨rfl,hb⟩
 have HB1:=vQ ((HB0.out _).trans (hb.mono (HB0.out _).size))
 clear hb HF
 go_wp2
 go_ret2
 exact aJ (by omega) HB1.out
theorem nB(f:Fr)(hw:f.wf)(u:AV)(w:World)(hv:Hv w)(h:aB w u f):
  Calls Tryz.prog 20 #[.agg u] w (iY w (Fr.err f) (0::(Fr.run f++[0]))):=by
 by_cases h1:f.kind=1
 ·exact oZ f h1 hw u w hv h
 by_cases h2:f.kind=2
 ·exact oY f h2 hw u w hv h
 by_cases h3:f.kind=3
 ·exact oX f h3 hw u w hv h
 exact o0 f h1 h2 h3 u w h
end
end Go.Proofs.YtlgfdgdlaahpfaaGreatDoor
