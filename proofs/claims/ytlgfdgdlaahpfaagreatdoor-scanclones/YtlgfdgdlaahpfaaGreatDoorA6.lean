import Derived.Test.YtlgfdgdlaahpfaaGreatDoorA7
set_option maxRecDepth 100000
set_option maxHeartbeats 8000000
namespace Go.Proofs.YtlgfdgdlaahpfaaGreatDoor
section
open Go.RowKit
theorem bE(n b:Int)(w:World):Calls Tryz.prog 88 #[.int .i64 n,.int .i64 b] w fun e w'=>e=.returned (.bool (Fr.within b n))∧w'=w:=by
 by_cases h1:0<=n
 ·by_cases h2:n<b
  ·have e:Fr.within b n=true:=decide_eq_true ⟨h1,h2⟩
   rw[e]
   clear e
   go_enter Tryz.func88,Tryz.ntmps88
   go_wp2
   go_ret
   exact⟨rfl,rfl⟩
  ·have e:Fr.within b n=false:=decide_eq_false (fun h=>h2 h.2)
   rw[e]
   clear e
   go_enter Tryz.func88,Tryz.ntmps88
   go_wp2
   go_ret
   exact⟨rfl,rfl⟩
 ·have e:Fr.within b n=false:=decide_eq_false (fun h=>h1 h.1)
  rw[e]
  clear e
  go_enter Tryz.func88,Tryz.ntmps88
  go_wp2
  go_ret
  exact⟨rfl,rfl⟩
theorem gy(b:Nat)(l:List Int)(hl:l.length<=100)(hw:∀n∈l,0<=n∧n<=9223372036854775807)(w:World)(h:Ints w b l):
    Calls Tryz.prog 90 #[.slice (some ⟨b,0,none⟩) l.length l.length] w fun e w'=>∃p cap,e=.returned (.slice p (Fr.nums l).length cap)∧Has w' w.1.size (.slice p (Fr.nums l).length cap) (Fr.nums l)∧Below w.1.size w w':=by
  have H:=vQ h
  have HW:=vQ hw
  clear h hw
  go_enter Tryz.func90,Tryz.ntmps90
  go_wp2
  go_loopw [3,4] (fun v3 v8 wr=>∃(k:Nat) (xs:L8),k<=l.length∧v8=.int .i64 k∧xs.length<=10*k∧Hid (xs=Fr.nums (l.take k)∧Has wr w.1.size v3 xs∧Below w.1.size w wr)) (fun _ v8 _=>l.length-(intOf v8).toNat)
  case atStart=>exact⟨0,[],by omega,rfl,by simp,rfl,aR _ _,vZ⟩
  case round=>
    obtain⟨k,xs,hk,rfl,hx,HK⟩:=hrel
    have hB:=HK.out.2.2.size
    have HO:=vQ HK.out.2.1
    by_cases hlt:k<l.length
    · have hlt':(k:Int)<(l.length:Int):=by omega
      have hc:wr.cell? ⟨b,k,none⟩=some (.int .i64 l[k]):=(HK.out.2.2.cell (p:=⟨b,k,none⟩) H.out.1).trans (H.out.2 k hlt)
      have hb2:=HW.out l[k] (List.getElem_mem hlt)
      have HT:=vQ (dY l k hlt)
      obtain⟨m,hm⟩:∃m:Nat,(m:Int)=l[k]:=⟨l[k].toNat,by omega⟩
      rw[<-hm] at hc hb2 HT
      have hm63:(m:Int)<=9223372036854775807:=hb2.2
      have HP:Hid (∀z:Int,z=(m:Int)->Calls Tryz.prog 100 #[.int .u64 z] wr fun e w'=>∃g cap,e=.returned (.slice (some ⟨g,0,none⟩) (Leb.put m).length cap)∧bh w' wr.1.size g cap (Leb.put m)∧Below wr.1.size wr w'):=fun z hz=>by
        subst hz;exact cA _ (by omega) wr
      have hpl:=Leb.put_length_le m
      have HT2:Hid (Fr.nums (l.take (k+1))=Fr.nums (l.take k)++Leb.put m):=by
        show _=_
        rw[HT.out,Int.toNat_natCast]
      clear hm hb2 HT
      obtain⟨u,hu⟩:∃u,u=Leb.put m:=⟨_,rfl⟩
      rw[<-hu] at HP hpl HT2
      clear hu
      go_wp2_with fail
      refine(HP.out _ (by omega)).mono ?_
      rintro e w1 ⟨g,cap1,rfl,hmn,hb1⟩
      have HM:=vQ hmn
      have HB1:=vQ hb1
      have hB1:=hb1.size
      clear hmn hb1 HP
      go_wp2_with (first
        | (at_builtin
           refine au (HO.out.on HB1.out) HM.out.at (by omega) (by omega) rfl rfl rfl rfl rfl ?_
           intro ys q3 cap3 W HY hh ha hk2
           have HB2:=vQ (ar ha (HO.out.on HB1.out) (by omega))
           have HH:=vQ hh
           have hyl:ys.length<=10*(k+1):=by rw[HY.out,List.length_append];omega
           clear ha hk2 hh)
        |fail)
      go_roundw
      case rel=>exact⟨k+1,ys,by omega,by go_num,hyl,by rw[HY.out,HT2.out,HK.out.1],HH.out,(HK.out.2.2.trans (HB1.out.mono hB)).trans HB2.out⟩
      case measure=>simp[intOf];omega
    · have hkk:k=l.length:=by omega
      subst hkk
      have HX:Hid (xs=Fr.nums l):=by
        show _=_
        rw[HK.out.1,List.take_length]
      obtain⟨p,cap,rfl,-,-⟩:=HO.out.at
      go_wp2
      go_ret
      rw[<-HX.out]
      exact⟨p,cap,rfl,HO.out,HK.out.2.2⟩
theorem fD{a b c:Bool}(h:¬(a&&b&&c)=true):a=false∨(a=true∧b=false)∨(a=true∧b=true∧c=false):=by
 revert h;cases a <;> cases b <;> cases c <;> simp
theorem fE{a b c:Bool}(h:(a&&b&&c)=true):a=true∧b=true∧c=true:=by
 revert h;cases a <;> cases b <;> cases c <;> simp
theorem iM(es:List Ent)(i:Nat)(h:i<es.length)(h1:(es.take i).all Fr.entOk=true)(h2:Fr.entOk es[i]=true):(es.take (i+1)).all Fr.entOk=true:=by
 rw[List.take_succ_eq_append_getElem h,List.all_append,h1]
 simp[h2]
theorem pV(a b c:Int)(es:List Ent)(p:OA)(ec:Nat)(w:World)(hl:es.length*24<=140737488351232)(h:cQ w p es):
  Calls Tryz.prog 89 #[.agg #[.int .i64 a,.int .i64 b,.int .i64 c,.slice p es.length ec]] w fun e w'=>e=.returned (.int .i64 (Fr.idxErr ⟨a,b,c,es⟩:Nat))∧Below w.1.size w w':=by
 obtain⟨R,hR⟩:∃R,R=Fr.idxErr ⟨a,b,c,es⟩:=⟨_,rfl⟩
 rw[<-hR]
 unfold Fr.idxErr at hR
 dsimp only at hR
 obtain⟨W0,hW0⟩:∃W0,W0=w.alloc (.cells #[.int .i64 a,.int .i64 b,.int .i64 c,.slice p es.length ec] 34):=⟨_,rfl⟩
 have HB0:Hid (Below w.1.size w W0):=by rw[hW0];exact vY
 have y0:W0.cell? ⟨w.1.size,0,none⟩=some (.int .i64 a):=by rw[hW0];simp
 have y1:W0.cell? ⟨w.1.size,1,none⟩=some (.int .i64 b):=by rw[hW0];simp
 have y2:W0.cell? ⟨w.1.size,2,none⟩=some (.int .i64 c):=by rw[hW0];simp
 have y3:W0.cell? ⟨w.1.size,3,none⟩=some (.slice p es.length ec):=by rw[hW0];simp
 have HW0:Hid (w.alloc (.cells #[.int .i64 a,.int .i64 b,.int .i64 c,.slice p es.length ec] 34)=W0):=by rw[hW0];exact rfl
 have H:=vQ (h.on HB0.out)
 have HR:=vQ hR
 clear h hW0 hR
 have H1:=vQ (bE a 1099511627776 W0)
 have H2:=vQ (bE b 1099511627776 W0)
 have H3:=vQ (bE c 1099511627776 W0)
 have HS:Hid (Fr.S=1099511627776):=rfl
 rw[HS.out] at HR
 generalize Fr.within 1099511627776 a=t1 at H1 HR
 generalize Fr.within 1099511627776 b=t2 at H2 HR
 generalize Fr.within 1099511627776 c=t3 at H3 HR
 go_enter Tryz.func89,Tryz.ntmps89
 go_wp2_with fail
 rw[HW0.out]
 refine H1.out.mono ?_
 rintro e w1 ⟨rfl,hw1⟩
 rw[hw1]
 clear hw1 w1 H1
 go_wp2_with fail
 refine H2.out.mono ?_
 rintro e w1 ⟨rfl,hw1⟩
 rw[hw1]
 clear hw1 w1 H2
 go_wp2_with fail
 refine H3.out.mono ?_
 rintro e w1 ⟨rfl,hw1⟩
 rw[hw1]
 clear hw1 w1 H3
 by_cases hall:(t1&&t2&&t3)=true
 ·rw[if_neg (by rw[hall];decide)] at HR
  obtain⟨rfl,rfl,rfl⟩:=fE hall
  clear hall
  by_cases h64:64<es.length
  ·rw[if_pos h64] at HR
   have h64':(64:Int)<(es.length:Int):=by omega
   clear h64
   go_wp2
   go_ret
   exact⟨by rw[HR.out];rfl,HB0.out⟩
  ·rw[if_neg h64] at HR
   have h64':¬(64:Int)<(es.length:Int):=by omega
   go_wp2_with fail
   go_loopw [6] (fun v6 wr=>∃i:Nat,i<=es.length∧v6=.int .i64 i∧wr=W0∧Hid ((es.take i).all Fr.entOk=true)) (fun v6 _=>es.length-(intOf v6).toNat)
   case atStart=>exact⟨0,by omega,rfl,rfl,rfl⟩
   case round=>
    obtain⟨i,hi,rfl,rfl,HT⟩:=hrel
    by_cases hlt:i<es.length
    ·have hlt':(i:Int)<(es.length:Int):=by omega
     obtain⟨b1,o1,hp,-,x0,x1,x2⟩:=H.out i hlt
     subst hp
     have HTT:Hid (Fr.entOk es[i]=true->(es.take (i+1)).all Fr.entOk=true):=fun hh=>iM es i hlt HT.out hh
     have HFF:Hid (Fr.entOk es[i]=false->R=7):=fun hh=>by
      rw[HR.out,if_pos]
      rw[List.all_eq_false]
      exact⟨es[i],List.getElem_mem hlt,by rw[hh];decide⟩
     have HEO:Hid (Fr.entOk es[i]=(Fr.within 1099511627776 es[i].at_&&Fr.within 1099511627776 es[i].row&&Fr.within 1099511627776 es[i].sch)):=rfl
     rw[HEO.out] at HTT HFF
     have G1:=vQ (bE es[i].at_ 1099511627776 wr)
     have G2:=vQ (bE es[i].row 1099511627776 wr)
     have G3:=vQ (bE es[i].sch 1099511627776 wr)
     clear HEO HT
     generalize Fr.within 1099511627776 es[i].at_=t1 at G1 HTT HFF
     generalize Fr.within 1099511627776 es[i].row=t2 at G2 HTT HFF
     generalize Fr.within 1099511627776 es[i].sch=t3 at G3 HTT HFF
     generalize es[i].at_=a' at x0 G1
     generalize es[i].row=b' at x1 G2
     generalize es[i].sch=c' at x2 G3
     go_wp2_with fail
     refine G1.out.mono ?_
     rintro e w1 ⟨rfl,hw1⟩
     rw[hw1]
     clear hw1 w1 G1
     go_wp2_with fail
     refine G2.out.mono ?_
     rintro e w1 ⟨rfl,hw1⟩
     rw[hw1]
     clear hw1 w1 G2
     go_wp2_with fail
     refine G3.out.mono ?_
     rintro e w1 ⟨rfl,hw1⟩
     rw[hw1]
     clear hw1 w1 G3
     by_cases hall:(t1&&t2&&t3)=true
     ·have HN:=vQ (HTT.out hall)
      obtain⟨rfl,rfl,rfl⟩:=fE hall
      clear hall HTT HFF
      go_wp2
      go_roundw
      case rel=>exact⟨i+1,by omega,by go_num,by first | rfl | trivial,HN⟩
      case measure=>simp[intOf];omega
     ·have HN:=vQ (HFF.out (Bool.not_eq_true _ ▸ hall))
      have hne:=fD hall
      clear hall HTT HFF
      rcases hne with rfl | ⟨rfl,rfl⟩ | ⟨rfl,rfl,rfl⟩
      all_goals
       go_wp2
       go_ret
       exact⟨by rw[HN.out];rfl,HB0.out⟩
    ·have hii:i=es.length:=by omega
     subst hii
     have HN:Hid (R=0):=by
      show _=_
      have:=HT.out
      rw[List.take_length] at this
      rw[HR.out,if_neg (by rw[this];decide)]
     clear HT
     go_wp2
     go_ret
     exact⟨by rw[HN.out];rfl,HB0.out⟩
 ·rw[if_pos (Bool.not_eq_true _ ▸ hall)] at HR
  have hne:=fD hall
  clear hall
  rcases hne with rfl | ⟨rfl,rfl⟩ | ⟨rfl,rfl,rfl⟩
  all_goals
   go_wp2
   go_ret
   exact⟨by rw[HR.out];rfl,HB0.out⟩
end
section
open Go.RowKit
theorem lT(f:Fr)(hk:f.kind=1)(hw:f.wf)(u:AV)(w:World)(hx:aB w u f):
  Calls Tryz.prog 64 #[.agg u] w fun e w'=>e=.returned (.int .i64 (Fr.err0 f:Nat))∧Below w.1.size w w':=by
 obtain⟨sp,sc,bp,bc,ep,ec,rfl,h1,h2,h3,h4,h5,h6,h7,h8,h9⟩:=hx.out
 unfold av
 obtain⟨R,hR⟩:∃R,R=Fr.err0 f:=⟨_,rfl⟩
 rw[<-hR]
 unfold Fr.err0 at hR
 rw[if_pos hk] at hR
 rw[hk]
 obtain⟨w0,hw0⟩:∃w0,w0=w.alloc (.cells #[.int .i64 1,.int .i64 f.number,.slice sp f.cols.length sc,.int .i64 f.seq,.int .i64 f.first,.int .i64 f.rows,.slice bp f.block.length bc,.int .i64 f.index.at_,.int .i64 f.index.frames,.int .i64 f.index.rows,.slice ep f.index.entries.length ec] 36):=⟨_,rfl⟩
 have HB0:Hid (Below w.1.size w w0):=by rw[hw0];exact vY
 have HW:Hid (w.alloc (.cells #[.int .i64 1,.int .i64 f.number,.slice sp f.cols.length sc,.int .i64 f.seq,.int .i64 f.first,.int .i64 f.rows,.slice bp f.block.length bc,.int .i64 f.index.at_,.int .i64 f.index.frames,.int .i64 f.index.rows,.slice ep f.index.entries.length ec] 36)=w0):=by rw[hw0];exact rfl
 have hK0:w0.1[w.1.size]?=some (.cells #[.int .i64 1,.int .i64 f.number,.slice sp f.cols.length sc,.int .i64 f.seq,.int .i64 f.first,.int .i64 f.rows,.slice bp f.block.length bc,.int .i64 f.index.at_,.int .i64 f.index.frames,.int .i64 f.index.rows,.slice ep f.index.entries.length ec] 36 (0,0)):=by rw[hw0];exact ag w _
 have y0:=aa hK0 0
 have y1:=aa hK0 1
 have y2:=aa hK0 2
 have y3:=aa hK0 3
 have y4:=aa hK0 4
 have y5:=aa hK0 5
 have y7:=aa hK0 7
 have y8:=aa hK0 8
 have y9:=aa hK0 9
 have y10:=aa hK0 10
 simp only[List.getElem?_toArray,List.getElem?_cons_zero,List.getElem?_cons_succ] at y0 y1 y2 y3 y4 y5 y7 y8 y9 y10
 clear hw0 hK0
 have HC:=vQ (jc f.cols sp sc w0 h1 h2 (h3.on HB0.out) hw.2.2.1)
 have H1:=vQ (bE f.number 2147483648 w0)
 have HR:=vQ hR
 have HN:Hid (Fr.N=2147483648):=rfl
 rw[HN.out] at HR
 generalize Fr.within 2147483648 f.number=t1 at H1 HR
 generalize Sch.err f.cols=er at HC HR
 clear hR hx h3 h6 h9 hw hk
 go_enter Tryz.func64,Tryz.ntmps64
 go_wp2_with fail
 rw[HW.out]
 refine H1.out.mono ?_
 rintro e w1 ⟨rfl,hw1⟩
 rw[hw1]
 clear hw1 w1 H1
 cases t1 with
 |false=>
  rw[if_pos rfl] at HR
  go_wp2
  go_ret
  exact⟨by rw[HR.out];rfl,HB0.out⟩
 |true=>
  rw[if_neg (by decide)] at HR
  go_wp2_with fail
  refine HC.out.mono ?_
  rintro e w1 ⟨rfl,hb1⟩
  have HB1:=vQ (HB0.out.trans (hb1.mono HB0.out.size))
  clear hb1 HC
  go_wp2
  go_ret
  exact⟨by rw[HR.out];rfl,HB1.out⟩
theorem lS(f:Fr)(hk:f.kind=2)(u:AV)(w:World)(hx:aB w u f):
  Calls Tryz.prog 64 #[.agg u] w fun e w'=>e=.returned (.int .i64 (Fr.err0 f:Nat))∧Below w.1.size w w':=by
 obtain⟨sp,sc,bp,bc,ep,ec,rfl,h1,h2,h3,h4,h5,h6,h7,h8,h9⟩:=hx.out
 unfold av
 obtain⟨R,hR⟩:∃R,R=Fr.err0 f:=⟨_,rfl⟩
 rw[<-hR]
 unfold Fr.err0 at hR
 rw[if_neg (by omega),if_pos hk] at hR
 rw[hk]
 obtain⟨w0,hw0⟩:∃w0,w0=w.alloc (.cells #[.int .i64 2,.int .i64 f.number,.slice sp f.cols.length sc,.int .i64 f.seq,.int .i64 f.first,.int .i64 f.rows,.slice bp f.block.length bc,.int .i64 f.index.at_,.int .i64 f.index.frames,.int .i64 f.index.rows,.slice ep f.index.entries.length ec] 36):=⟨_,rfl⟩
 have HB0:Hid (Below w.1.size w w0):=by rw[hw0];exact vY
 have HW:Hid (w.alloc (.cells #[.int .i64 2,.int .i64 f.number,.slice sp f.cols.length sc,.int .i64 f.seq,.int .i64 f.first,.int .i64 f.rows,.slice bp f.block.length bc,.int .i64 f.index.at_,.int .i64 f.index.frames,.int .i64 f.index.rows,.slice ep f.index.entries.length ec] 36)=w0):=by rw[hw0];exact rfl
 have hK0:w0.1[w.1.size]?=some (.cells #[.int .i64 2,.int .i64 f.number,.slice sp f.cols.length sc,.int .i64 f.seq,.int .i64 f.first,.int .i64 f.rows,.slice bp f.block.length bc,.int .i64 f.index.at_,.int .i64 f.index.frames,.int .i64 f.index.rows,.slice ep f.index.entries.length ec] 36 (0,0)):=by rw[hw0];exact ag w _
 have y0:=aa hK0 0
 have y1:=aa hK0 1
 have y2:=aa hK0 2
 have y3:=aa hK0 3
 have y4:=aa hK0 4
 have y5:=aa hK0 5
 have y7:=aa hK0 7
 have y8:=aa hK0 8
 have y9:=aa hK0 9
 have y10:=aa hK0 10
 simp only[List.getElem?_toArray,List.getElem?_cons_zero,List.getElem?_cons_succ] at y0 y1 y2 y3 y4 y5 y7 y8 y9 y10
 clear hw0 hK0
 have H1:=vQ (bE f.number 2147483648 w0)
 have H2:=vQ (bE f.seq 1099511627776 w0)
 have H3:=vQ (bE f.first 1099511627776 w0)
 have HR:=vQ hR
 have HN:Hid (Fr.N=2147483648):=rfl
 have HS:Hid (Fr.S=1099511627776):=rfl
 rw[HN.out,HS.out] at HR
 generalize Fr.within 2147483648 f.number=t1 at H1 HR
 generalize Fr.within 1099511627776 f.seq=t2 at H2 HR
 generalize Fr.within 1099511627776 f.first=t3 at H3 HR
 clear hR hx h3 h6 h9 hk HN HS
 go_enter Tryz.func64,Tryz.ntmps64
 go_wp2_with fail
 rw[HW.out]
 refine H1.out.mono ?_
 rintro e w1 ⟨rfl,hw1⟩
 rw[hw1]
 clear hw1 w1 H1
 go_wp2_with fail
 refine H2.out.mono ?_
 rintro e w1 ⟨rfl,hw1⟩
 rw[hw1]
 clear hw1 w1 H2
 go_wp2_with fail
 refine H3.out.mono ?_
 rintro e w1 ⟨rfl,hw1⟩
 rw[hw1]
 clear hw1 w1 H3
 by_cases hall:(t1&&t2&&t3)=true
 ·rw[hall,Bool.true_and] at HR
  obtain⟨rfl,rfl,rfl⟩:=fE hall
  clear hall
  by_cases k1:f.rows<1
  ·rw[if_pos (decide_eq_false (by omega))] at HR
   go_wp2
   go_ret
   exact⟨by rw[HR.out];rfl,HB0.out⟩
  ·by_cases k2:64<f.rows
   ·rw[if_pos (decide_eq_false (by omega))] at HR
    go_wp2
    go_ret
    exact⟨by rw[HR.out];rfl,HB0.out⟩
   ·rw[if_neg (by rw[decide_eq_true (by omega)];decide)] at HR
    go_wp2
    go_ret
    exact⟨by rw[HR.out];rfl,HB0.out⟩
 ·have hff:(t1&&t2&&t3)=false:=Bool.eq_false_iff.2 hall
  rw[if_pos (by rw[hff,Bool.false_and])] at HR
  clear hff
  have hne:=fD hall
  clear hall
  rcases hne with rfl | ⟨rfl,rfl⟩ | ⟨rfl,rfl,rfl⟩
  all_goals
   go_wp2
   go_ret
   exact⟨by rw[HR.out];rfl,HB0.out⟩
theorem lR(f:Fr)(hk:f.kind=3)(u:AV)(w:World)(hx:aB w u f):
  Calls Tryz.prog 64 #[.agg u] w fun e w'=>e=.returned (.int .i64 (Fr.err0 f:Nat))∧Below w.1.size w w':=by
 obtain⟨sp,sc,bp,bc,ep,ec,rfl,h1,h2,h3,h4,h5,h6,h7,h8,h9⟩:=hx.out
 unfold av
 obtain⟨R,hR⟩:∃R,R=Fr.err0 f:=⟨_,rfl⟩
 rw[<-hR]
 unfold Fr.err0 at hR
 rw[if_neg (by omega),if_neg (by omega),if_pos hk] at hR
 rw[hk]
 obtain⟨w0,hw0⟩:∃w0,w0=w.alloc (.cells #[.int .i64 3,.int .i64 f.number,.slice sp f.cols.length sc,.int .i64 f.seq,.int .i64 f.first,.int .i64 f.rows,.slice bp f.block.length bc,.int .i64 f.index.at_,.int .i64 f.index.frames,.int .i64 f.index.rows,.slice ep f.index.entries.length ec] 36):=⟨_,rfl⟩
 have HB0:Hid (Below w.1.size w w0):=by rw[hw0];exact vY
 have HW:Hid (w.alloc (.cells #[.int .i64 3,.int .i64 f.number,.slice sp f.cols.length sc,.int .i64 f.seq,.int .i64 f.first,.int .i64 f.rows,.slice bp f.block.length bc,.int .i64 f.index.at_,.int .i64 f.index.frames,.int .i64 f.index.rows,.slice ep f.index.entries.length ec] 36)=w0):=by rw[hw0];exact rfl
 have hK0:w0.1[w.1.size]?=some (.cells #[.int .i64 3,.int .i64 f.number,.slice sp f.cols.length sc,.int .i64 f.seq,.int .i64 f.first,.int .i64 f.rows,.slice bp f.block.length bc,.int .i64 f.index.at_,.int .i64 f.index.frames,.int .i64 f.index.rows,.slice ep f.index.entries.length ec] 36 (0,0)):=by rw[hw0];exact ag w _
 have y0:=aa hK0 0
 have y1:=aa hK0 1
 have y2:=aa hK0 2
 have y3:=aa hK0 3
 have y4:=aa hK0 4
 have y5:=aa hK0 5
 have y7:=aa hK0 7
 have y8:=aa hK0 8
 have y9:=aa hK0 9
 have y10:=aa hK0 10
 simp only[List.getElem?_toArray,List.getElem?_cons_zero,List.getElem?_cons_succ] at y0 y1 y2 y3 y4 y5 y7 y8 y9 y10
 clear hw0 hK0
 have HC:=vQ (pV f.index.at_ f.index.frames f.index.rows f.index.entries ep ec w0 h7 (h9.on HB0.out))
 have HD:Hid (Fr.idxErr ⟨f.index.at_,f.index.frames,f.index.rows,f.index.entries⟩=Fr.idxErr f.index):=rfl
 rw[HD.out,<-hR] at HC
 clear hR hx h3 h6 h9 hk HD
 go_enter Tryz.func64,Tryz.ntmps64
 go_wp2_with fail
 rw[HW.out]
 refine HC.out.mono ?_
 rintro e w1 ⟨rfl,hb1⟩
 have HB1:=vQ (HB0.out.trans (hb1.mono HB0.out.size))
 clear hb1 HC
 go_wp2
 go_ret
 exact⟨rfl,HB1.out⟩
theorem lU(f:Fr)(g1:f.kind≠1)(g2:f.kind≠2)(g3:f.kind≠3)(u:AV)(w:World)(hx:aB w u f):
  Calls Tryz.prog 64 #[.agg u] w fun e w'=>e=.returned (.int .i64 (Fr.err0 f:Nat))∧Below w.1.size w w':=by
 obtain⟨sp,sc,bp,bc,ep,ec,rfl,h1,h2,h3,h4,h5,h6,h7,h8,h9⟩:=hx.out
 unfold av
 obtain⟨R,hR⟩:∃R,R=Fr.err0 f:=⟨_,rfl⟩
 rw[<-hR]
 unfold Fr.err0 at hR
 rw[if_neg g1,if_neg g2,if_neg g3] at hR
 subst hR
 have HB0:Hid (∀o,Below w.1.size w (w.alloc o)):=fun o=>vY
 have k1:=aH g1
 have k2:=aH g2
 have k3:=aH g3
 clear g1 g2 g3 hx
 go_enter Tryz.func64,Tryz.ntmps64
 go_wp2
 go_ret
 exact⟨rfl,HB0.out _⟩
theorem pL(f:Fr)(hw:f.wf)(u:AV)(w:World)(hx:aB w u f):
  Calls Tryz.prog 64 #[.agg u] w fun e w'=>e=.returned (.int .i64 (Fr.err0 f:Nat))∧Below w.1.size w w':=by
 by_cases h1:f.kind=1
 ·exact lT f h1 hw u w hx
 by_cases h2:f.kind=2
 ·exact lS f h2 u w hx
 by_cases h3:f.kind=3
 ·exact lR f h3 u w hx
 exact lU f h1 h2 h3 u w hx
theorem qD(n:Nat):(Sch.le 4 n).length=4:=by simp[Sch.le]
theorem ss(n k:Nat)(h:k<4):(Sch.le 4 n).take (k+1)=(Sch.le 4 n).take k++[UInt8.ofNat (n / 256 ^ k % 256)]:=by
 have e:Sch.le 4 n=[UInt8.ofNat (n / 256 ^ 0 % 256),UInt8.ofNat (n / 256 ^ 1 % 256),UInt8.ofNat (n / 256 ^ 2 % 256),UInt8.ofNat (n / 256 ^ 3 % 256)]:=by
  simp[Sch.le,Nat.div_div_eq_div_mul]
 rw[e]
 match k,h with
 |0,_=>rfl
 |1,_=>rfl
 |2,_=>rfl
 |3,_=>rfl
theorem eO(p:OA)(c:Nat)(l:L8)(hl:l.length<=141000000000000)(w:World)(h:At w p l):
    Calls Tryz.prog 92 #[.slice p l.length c] w fun e w'=>∃q cap,e=.returned (.slice q (Fr.check l).length cap)∧Has w' w.1.size (.slice q (Fr.check l).length cap) (Fr.check l)∧Below w.1.size w w':=by
  have HS:=vQ (lY p c l (by omega) w h)
  have HA:=vQ h
  have HE:Hid (aR w w.1.size=aR w w.1.size):=rfl
  have hS32:Crc.sum l<4294967296:=Crc.update_lt (by omega) l
  obtain⟨S,hS⟩:∃S,S=Crc.sum l:=⟨_,rfl⟩
  rw[<-hS] at HS hS32
  have HSm:=vQ hS
  clear h hS HE
  go_enter Tryz.func92,Tryz.ntmps92
  go_wp2_with fail
  refine HS.out.mono ?_
  rintro e w1 ⟨rfl,hw1⟩
  rw[hw1]
  clear hw1 w1 HS
  go_wp2_with (first
    | (at_builtin
       refine au (aR w w.1.size) HA.out (by simp;omega) vX rfl rfl rfl rfl rfl ?_
       intro ys q3 cap3 W HY hh ha hk2
       have HB2:=vQ (ar ha (aR w w.1.size) vX)
       have HH:=vQ hh
       clear ha hk2 hh)
    |fail)
  have HY2:Hid (ys=l):=by show _=_;rw[HY.out];rfl
  clear HY
  have HYL:Hid (ys.length<=l.length+0):=by show _<=_;rw[HY2.out];exact vX
  go_loopw [3,4,5] (fun v3 v4 v5 wr=>∃(k:Nat) (m:Nat) (xs:L8),k<=4∧v5=.int .i64 k∧v3=.int .u32 (m:Nat)∧m<4294967296∧xs.length<=l.length+k∧Hid (m=S / 256 ^ k∧xs=l++(Sch.le 4 S).take k∧Has wr w.1.size v4 xs∧Below w.1.size w wr)) (fun _ _ v5 _=>4-(intOf v5).toNat)
  case atStart=>exact⟨0,S,ys,by omega,rfl,rfl,hS32,HYL.out,by simp,by rw[HY2.out];simp,HH.out,HB2.out⟩
  case round=>
    obtain⟨k,m,xs,hk,rfl,rfl,hm,hxl,HK⟩:=hrel
    have hB:=HK.out.2.2.2.size
    have HO:=vQ HK.out.2.2.1
    by_cases hlt:k<4
    · have hlt':(k:Int)<4:=by omega
      have hm2:m / 256<4294967296:=by omega
      have hc8:(UInt8.ofNat (m % 256)).toNat=m % 256:=by rw[UInt8.toNat_ofNat'];omega
      have HN:Hid (m / 256=S / 256 ^ (k+1)):=by show _=_;rw[HK.out.1,Nat.div_div_eq_div_mul,Nat.pow_succ]
      have HX:Hid (xs++[UInt8.ofNat (m % 256)]=l++(Sch.le 4 S).take (k+1)):=by show _=_;rw[ss S k hlt,HK.out.2.1,HK.out.1,List.append_assoc]
      go_wp2_with (first
        | (at_builtin
           refine aV HO.out (UInt8.ofNat (m % 256)) (by omega) hB (by rw[hc8];omega) rfl rfl rfl rfl rfl ?_
           intro g3 cap3' W3 hm3 hb3
           have HM3:=vQ hm3
           have HB3:=vQ hb3
           clear hm3 hb3)
        |fail)
      go_roundw
      case rel=>
        refine⟨k+1,m / 256,xs++[UInt8.ofNat (m % 256)],by omega,by go_num,by go_num,hm2,by simp;omega,HN.out,HX.out,?_,HK.out.2.2.2.trans HB3.out⟩
        have:=HM3.out.has
        rw[List.length_append] at this
        exact this
      case measure=>simp[intOf];omega
    · have hkk:k=4:=by omega
      subst hkk
      have HX:Hid (xs=Fr.check l):=by
        show _=_
        rw[HK.out.2.1,HSm.out,Fr.check,List.take_of_length_le (by rw[qD];exact vX)]
      obtain⟨q,cap,rfl,-,-⟩:=HO.out.at
      go_wp2
      go_ret
      rw[<-HX.out]
      exact⟨q,cap,rfl,HO.out,HK.out.2.2.2⟩
end
section
open Go.RowKit
theorem bP{w:World}{B n c:Nat}{q:OA}{l:L8}(h:Has w B (.slice q n c) l):At w q l:=by
 obtain⟨p',c',he,ha,-⟩:=h.at
 injection he with e1
 subst e1
 exact ha
def nK(w:World)(l:L8)(e:Ending)(w':World):Prop:=∃q cap,e=.returned (.slice q l.length cap)∧Has w' w.1.size (.slice q l.length cap) l∧Below w.1.size w w'
theorem nX(f:Fr)(hk:f.kind=2)(hbk:f.block.length<=140737488351232)(hw:f.wf)(he:Fr.err0 f=0)(u:AV)(w:World)(hx:aB w u f):
    Calls Tryz.prog 65 #[.agg u] w (nK w (Fr.check (Fr.head f))):=by
  obtain⟨sp,sc,bp,bc,ep,ec,rfl,h1,h2,h3,h4,h5,h6,h7,h8,h9⟩:=hx.out
  unfold av
  obtain⟨w0,hw0⟩:∃w0,w0=w.alloc (.cells #[.int .i64 2,.int .i64 f.number,.slice sp f.cols.length sc,.int .i64 f.seq,.int .i64 f.first,.int .i64 f.rows,.slice bp f.block.length bc,.int .i64 f.index.at_,.int .i64 f.index.frames,.int .i64 f.index.rows,.slice ep f.index.entries.length ec] 36):=⟨_,rfl⟩
  have hz0:w0.1.size=w.1.size+1:=by rw[hw0];simp
  have HB0:Hid (Below w.1.size w w0):=by rw[hw0];exact vY
  have hK0:w0.1[w.1.size]?=some (.cells #[.int .i64 2,.int .i64 f.number,.slice sp f.cols.length sc,.int .i64 f.seq,.int .i64 f.first,.int .i64 f.rows,.slice bp f.block.length bc,.int .i64 f.index.at_,.int .i64 f.index.frames,.int .i64 f.index.rows,.slice ep f.index.entries.length ec] 36 (0,0)):=by rw[hw0];exact ag w _
  obtain⟨w1,hw1⟩:∃w1,w1=w0.alloc (.cells #[.int .u8 2] 5):=⟨_,rfl⟩
  have hz1:w1.1.size=w.1.size+2:=by rw[hw1];simp[hz0]
  have HB01:Hid (Below w0.1.size w0 w1):=by rw[hw1];exact vY
  have HL1:Hid (Has w1 w0.1.size (.slice (some ⟨w.1.size+1,0,none⟩) 1 1) [2]):=by
    have:=bF (B:=w0.1.size) (w:=w0) [2] (C:=#[.int .u8 2]) rfl vX (by simp)
    rw[<-hw1] at this
    show Has _ _ _ _
    rw[hz0] at this ⊢
    exact this
  obtain⟨w2,hw2⟩:∃w2,w2=w1.alloc (.cells #[.int .i64 f.number,.int .i64 f.seq,.int .i64 f.first,.int .i64 f.rows] 2):=⟨_,rfl⟩
  have HB12:Hid (Below w1.1.size w1 w2):=by rw[hw2];exact vY
  have HW:Hid (((w.alloc (.cells #[.int .i64 2,.int .i64 f.number,.slice sp f.cols.length sc,.int .i64 f.seq,.int .i64 f.first,.int .i64 f.rows,.slice bp f.block.length bc,.int .i64 f.index.at_,.int .i64 f.index.frames,.int .i64 f.index.rows,.slice ep f.index.entries.length ec] 36)).alloc (.cells #[.int .u8 2] 5)).alloc (.cells #[.int .i64 f.number,.int .i64 f.seq,.int .i64 f.first,.int .i64 f.rows] 2)=w2):=by rw[hw2,hw1,hw0];exact rfl
  have hin:0<=f.number∧0<=f.seq∧0<=f.first∧1<=f.rows:=by
    unfold Fr.err0 at he
    rw[if_neg (by omega),if_pos hk] at he
    by_cases hb:(Fr.within Fr.N f.number&&Fr.within Fr.S f.seq&&Fr.within Fr.S f.first&&decide (1<=f.rows∧f.rows<=64))=false
    · rw[if_pos hb] at he;omega
    · rw[Bool.not_eq_false] at hb
      simp only[Bool.and_eq_true,Fr.within_iff,decide_eq_true_eq] at hb
      omega
  obtain⟨v0,v1,v2,v3,v4,v5,v6,v7⟩:=hw
  unfold Fr.i64 at v0 v1 v3 v4 v5
  have hI:Ints w2 (w.1.size+2) [f.number,f.seq,f.first,f.rows]:=by
    have:=cK w1 [f.number,f.seq,f.first,f.rows] (C:=#[.int .i64 f.number,.int .i64 f.seq,.int .i64 f.first,.int .i64 f.rows]) rfl
    rw[<-hw2,hz1] at this
    exact this
  have HP:=vQ (gy (w.1.size+2) [f.number,f.seq,f.first,f.rows] (by simp) (fun m hm=>by
      simp only[List.mem_cons,List.not_mem_nil,or_false] at hm
      omega) w2 hI)
  have hnl:(Fr.nums [f.number,f.seq,f.first,f.rows]).length<=40:=by
    have g1:=Leb.put_length_le f.number.toNat
    have g2:=Leb.put_length_le f.seq.toNat
    have g3:=Leb.put_length_le f.first.toNat
    have g4:=Leb.put_length_le f.rows.toNat
    simp only[Fr.nums_cons,Fr.nums_nil,List.append_nil,List.length_append]
    omega
  have HHd:Hid (Fr.head f=2::(Fr.nums [f.number,f.seq,f.first,f.rows]++f.block)):=by
    show _=_
    unfold Fr.head Fr.fields
    rw[if_neg (by omega),if_pos hk,hk]
    rfl
  have HB02:Hid (Below w0.1.size w0 w2):=HB01.out.trans (HB12.out.mono HB01.out.size)
  have HAt:=vQ h6
  rw[hk]
  have HK0:=vQ hK0
  obtain⟨ns,hns⟩:∃ns,ns=Fr.nums [f.number,f.seq,f.first,f.rows]:=⟨_,rfl⟩
  rw[<-hns] at HP hnl HHd
  clear hw0 hw1 hw2 hK0 hx h3 h6 h9 hk he hI hin hns v0 v1 v2 v3 v4 v5 v6 v7
  have hz2:=HB12.out.size
  go_enter Tryz.func65,Tryz.ntmps65
  go_wp2_with fail
  rw[HW.out]
  refine HP.out.mono ?_
  rintro e w3 ⟨p3,cap3,rfl,hh3,hb3⟩
  have HB03:=vQ (HB02.out.trans (hb3.mono HB02.out.size))
  have HB13:=vQ (HB12.out.trans (hb3.mono HB12.out.size))
  have hK3:=(HB03.out.block _ (by omega)).trans HK0.out
  have x0:=aa hK3 0
  have x1:=aa hK3 1
  have x2:=aa hK3 2
  have x3:=aa hK3 3
  have x4:=aa hK3 4
  have x5:=aa hK3 5
  have x6:=aa hK3 6
  have x7:=aa hK3 7
  have x8:=aa hK3 8
  have x9:=aa hK3 9
  have x10:=aa hK3 10
  simp only[List.getElem?_toArray,List.getElem?_cons_zero,List.getElem?_cons_succ] at x0 x1 x2 x3 x4 x5 x6 x7 x8 x9 x10
  have HA3:=vQ (bP hh3)
  have HL3:=vQ (HL1.out.on HB13.out)
  have hz3:=HB03.out.size
  clear hh3 hb3 HP HW
  go_wp2_with (first
    | (at_builtin
       refine au HL3.out HA3.out (by first | omega | (simp only[List.length_cons,List.length_nil];omega)) (by omega) rfl rfl rfl rfl rfl ?_
       intro ys4 q4 cap4 W4 HY4 hh4 ha4 hk4
       have HBy4:=vQ (ar ha4 HL3.out (by omega))
       have HHy4:=vQ hh4
       clear ha4 hk4 hh4
       have HB04:Hid (Below w0.1.size w0 W4):=HB03.out.trans HBy4.out
       have hK4:=(HB04.out.block _ (by omega)).trans HK0.out
       clear x0 x1 x2 x3 x4 x5 x6 x7 x8 x9 x10
       have x0:=aa hK4 0
       have x1:=aa hK4 1
       have x2:=aa hK4 2
       have x3:=aa hK4 3
       have x4:=aa hK4 4
       have x5:=aa hK4 5
       have x6:=aa hK4 6
       have x7:=aa hK4 7
       have x8:=aa hK4 8
       have x9:=aa hK4 9
       have x10:=aa hK4 10
       simp only[List.getElem?_toArray,List.getElem?_cons_zero,List.getElem?_cons_succ] at x0 x1 x2 x3 x4 x5 x6 x7 x8 x9 x10
       have hy4:ys4.length<=41:=by rw[HY4.out];simp;omega
       have hz4:=HB04.out.size
       have HA4:=vQ (HAt.out.on (HB0.out.trans (HB04.out.mono HB0.out.size)))
       clear hK3 hK4)
    | (at_builtin
       refine au HHy4.out HA4.out (by first | omega | (simp only[List.length_cons,List.length_nil];omega)) (by omega) rfl rfl rfl rfl rfl ?_
       intro ys5 q5 cap5 W5 HY5 hh5 ha5 hk5
       have HBy5:=vQ (ar ha5 HHy4.out (by omega))
       have HHy5:=vQ hh5
       clear ha5 hk5 hh5)
    |fail)
  have HB05:Hid (Below w0.1.size w0 W5):=HB04.out.trans HBy5.out
  have hy5:ys5.length<=41+f.block.length:=by rw[HY5.out,List.length_append];omega
  have HZ:Hid (Fr.check ys5=Fr.check (Fr.head f)):=by show _=_;rw[HY5.out,HY4.out,HHd.out];rfl
  have HCk:=vQ (eO q5 cap5 ys5 (by omega) W5 (bP HHy5.out))
  have HBW:=HB05
  go_wp2_with fail
  refine HCk.out.mono ?_
  rintro e w9 ⟨q9,cap9,rfl,hh9,hb9⟩
  have HB9:=vQ (HB0.out.trans ((HBW.out.trans (hb9.mono HBW.out.size)).mono HB0.out.size))
  have HH9:=vQ (hh9.lower (B':=w.1.size) (Nat.le_trans HB0.out.size HBW.out.size))
  clear hh9 hb9 HCk
  go_wp2
  go_ret
  rw[<-HZ.out]
  exact⟨_,_,rfl,HH9.out,HB9.out⟩
theorem nY(f:Fr)(hk:f.kind=1)(hw:f.wf)(he:Fr.err0 f=0)(u:AV)(w:World)(hx:aB w u f):
    Calls Tryz.prog 65 #[.agg u] w (nK w (Fr.check (Fr.head f))):=by
  obtain⟨sp,sc,bp,bc,ep,ec,rfl,h1,h2,h3,h4,h5,h6,h7,h8,h9⟩:=hx.out
  unfold av
  obtain⟨w0,hw0⟩:∃w0,w0=w.alloc (.cells #[.int .i64 1,.int .i64 f.number,.slice sp f.cols.length sc,.int .i64 f.seq,.int .i64 f.first,.int .i64 f.rows,.slice bp f.block.length bc,.int .i64 f.index.at_,.int .i64 f.index.frames,.int .i64 f.index.rows,.slice ep f.index.entries.length ec] 36):=⟨_,rfl⟩
  have hz0:w0.1.size=w.1.size+1:=by rw[hw0];simp
  have HB0:Hid (Below w.1.size w w0):=by rw[hw0];exact vY
  have hK0:w0.1[w.1.size]?=some (.cells #[.int .i64 1,.int .i64 f.number,.slice sp f.cols.length sc,.int .i64 f.seq,.int .i64 f.first,.int .i64 f.rows,.slice bp f.block.length bc,.int .i64 f.index.at_,.int .i64 f.index.frames,.int .i64 f.index.rows,.slice ep f.index.entries.length ec] 36 (0,0)):=by rw[hw0];exact ag w _
  obtain⟨w1,hw1⟩:∃w1,w1=w0.alloc (.cells #[.int .u8 1] 5):=⟨_,rfl⟩
  have hz1:w1.1.size=w.1.size+2:=by rw[hw1];simp[hz0]
  have HB01:Hid (Below w0.1.size w0 w1):=by rw[hw1];exact vY
  have HL1:Hid (Has w1 w0.1.size (.slice (some ⟨w.1.size+1,0,none⟩) 1 1) [1]):=by
    have:=bF (B:=w0.1.size) (w:=w0) [1] (C:=#[.int .u8 1]) rfl vX (by simp)
    rw[<-hw1] at this
    show Has _ _ _ _
    rw[hz0] at this ⊢
    exact this
  obtain⟨w2,hw2⟩:∃w2,w2=w1.alloc (.cells #[.int .i64 f.number] 2):=⟨_,rfl⟩
  have HB12:Hid (Below w1.1.size w1 w2):=by rw[hw2];exact vY
  have HW:Hid (((w.alloc (.cells #[.int .i64 1,.int .i64 f.number,.slice sp f.cols.length sc,.int .i64 f.seq,.int .i64 f.first,.int .i64 f.rows,.slice bp f.block.length bc,.int .i64 f.index.at_,.int .i64 f.index.frames,.int .i64 f.index.rows,.slice ep f.index.entries.length ec] 36)).alloc (.cells #[.int .u8 1] 5)).alloc (.cells #[.int .i64 f.number] 2)=w2):=by rw[hw2,hw1,hw0];exact rfl
  have hin:0<=f.number∧Sch.err f.cols=0:=by
    unfold Fr.err0 at he
    rw[if_pos hk] at he
    by_cases hb:Fr.within Fr.N f.number=false
    · rw[if_pos hb] at he;omega
    · rw[if_neg hb] at he
      rw[Bool.not_eq_false,Fr.within_iff] at hb
      exact⟨hb.1,he⟩
  have HWf:=vQ hw.2.2.1
  obtain⟨v0,v1,-⟩:=hw
  unfold Fr.i64 at v0 v1
  have hI:Ints w2 (w.1.size+2) [f.number]:=by
    have:=cK w1 [f.number] (C:=#[.int .i64 f.number]) rfl
    rw[<-hw2,hz1] at this
    exact this
  have HP:=vQ (gy (w.1.size+2) [f.number] (by simp) (fun m hm=>by
      simp only[List.mem_cons,List.not_mem_nil,or_false] at hm
      omega) w2 hI)
  have hnl:(Fr.nums [f.number]).length<=10:=by
    have g1:=Leb.put_length_le f.number.toNat
    simp only[Fr.nums_cons,Fr.nums_nil,List.append_nil]
    omega
  have HHd:Hid (Fr.head f=1::(Fr.nums [f.number]++Sch.bytes f.cols)):=by
    show _=_
    unfold Fr.head Fr.fields
    rw[if_pos hk,hk]
    rfl
  have hbl:(Sch.bytes f.cols).length<=1024:=(Sch.err_open hin.2).2.2.2
  have HErr:=vQ hin.2
  have HB02:Hid (Below w0.1.size w0 w2):=HB01.out.trans (HB12.out.mono HB01.out.size)
  have HX:=vQ h3
  rw[hk]
  have HK0:=vQ hK0
  obtain⟨ns,hns⟩:∃ns,ns=Fr.nums [f.number]:=⟨_,rfl⟩
  rw[<-hns] at HP hnl HHd
  clear hw0 hw1 hw2 hK0 hx h3 h6 h9 hk he hI hin hns v0 v1
  have hz2:=HB12.out.size
  go_enter Tryz.func65,Tryz.ntmps65
  go_wp2_with fail
  rw[HW.out]
  refine HP.out.mono ?_
  rintro e w3 ⟨p3,cap3,rfl,hh3,hb3⟩
  have HB03:=vQ (HB02.out.trans (hb3.mono HB02.out.size))
  have HB13:=vQ (HB12.out.trans (hb3.mono HB12.out.size))
  have hK3:=(HB03.out.block _ (by omega)).trans HK0.out
  have x0:=aa hK3 0
  have x1:=aa hK3 1
  have x2:=aa hK3 2
  have x3:=aa hK3 3
  have x4:=aa hK3 4
  have x5:=aa hK3 5
  have x6:=aa hK3 6
  have x7:=aa hK3 7
  have x8:=aa hK3 8
  have x9:=aa hK3 9
  have x10:=aa hK3 10
  simp only[List.getElem?_toArray,List.getElem?_cons_zero,List.getElem?_cons_succ] at x0 x1 x2 x3 x4 x5 x6 x7 x8 x9 x10
  have HA3:=vQ (bP hh3)
  have HL3:=vQ (HL1.out.on HB13.out)
  have hz3:=HB03.out.size
  clear hh3 hb3 HP HW
  go_wp2_with (first
    | (at_builtin
       refine au HL3.out HA3.out (by first | omega | (simp only[List.length_cons,List.length_nil];omega)) (by omega) rfl rfl rfl rfl rfl ?_
       intro ys4 q4 cap4 W4 HY4 hh4 ha4 hk4
       have HBy4:=vQ (ar ha4 HL3.out (by omega))
       have HHy4:=vQ hh4
       clear ha4 hk4 hh4
       have HB04:Hid (Below w0.1.size w0 W4):=HB03.out.trans HBy4.out
       have hK4:=(HB04.out.block _ (by omega)).trans HK0.out
       clear x0 x1 x2 x3 x4 x5 x6 x7 x8 x9 x10
       have x0:=aa hK4 0
       have x1:=aa hK4 1
       have x2:=aa hK4 2
       have x3:=aa hK4 3
       have x4:=aa hK4 4
       have x5:=aa hK4 5
       have x6:=aa hK4 6
       have x7:=aa hK4 7
       have x8:=aa hK4 8
       have x9:=aa hK4 9
       have x10:=aa hK4 10
       simp only[List.getElem?_toArray,List.getElem?_cons_zero,List.getElem?_cons_succ] at x0 x1 x2 x3 x4 x5 x6 x7 x8 x9 x10)
    |fail)
  have hy4:ys4.length<=11:=by rw[HY4.out];simp;omega
  have hz4:=HB04.out.size
  have HE:=vQ (l8 f.cols sp sc W4 h1 h2 (HX.out.on (HB0.out.trans (HB04.out.mono HB0.out.size))) HWf.out)
  clear hK3 hK4
  go_wp2_with fail
  refine HE.out.mono ?_
  rintro e w5 (⟨-,q5,cap5,rfl,hh5,hb5⟩ | ⟨hz,-,-⟩)
  case inr=>exact absurd HErr.out hz
  have HB45:=vQ hb5
  have HB05:=vQ (HB04.out.trans (hb5.mono hz4))
  have HA5:=vQ (bP hh5)
  have HH5:=vQ (HHy4.out.on hb5)
  have hz5:=HB05.out.size
  clear hh5 hb5 HE
  go_wp2_with (first
    | (at_builtin
       refine au HH5.out HA5.out (by first | omega | (simp only[List.length_cons,List.length_nil];omega)) (by omega) rfl rfl rfl rfl rfl ?_
       intro ys6 q6 cap6 W6 HY6 hh6 ha6 hk6
       have HBy6:=vQ (ar ha6 HH5.out (by omega))
       have HHy6:=vQ hh6
       clear ha6 hk6 hh6)
    |fail)
  have HB06:Hid (Below w0.1.size w0 W6):=HB05.out.trans HBy6.out
  have hy6:ys6.length<=1100:=by rw[HY6.out,List.length_append];omega
  have HZ:Hid (Fr.check ys6=Fr.check (Fr.head f)):=by show _=_;rw[HY6.out,HY4.out,HHd.out];rfl
  have HCk:=vQ (eO q6 cap6 ys6 (by omega) W6 (bP HHy6.out))
  have HBW:=HB06
  go_wp2_with fail
  refine HCk.out.mono ?_
  rintro e w9 ⟨q9,cap9,rfl,hh9,hb9⟩
  have HB9:=vQ (HB0.out.trans ((HBW.out.trans (hb9.mono HBW.out.size)).mono HB0.out.size))
  have HH9:=vQ (hh9.lower (B':=w.1.size) (Nat.le_trans HB0.out.size HBW.out.size))
  clear hh9 hb9 HCk
  go_wp2
  go_ret
  rw[<-HZ.out]
  exact⟨_,_,rfl,HH9.out,HB9.out⟩
end
section
open Go.RowKit
theorem nW(f:Fr)(hk:f.kind=3)(hw:f.wf)(he:Fr.err0 f=0)(u:AV)(w:World)(hx:aB w u f):
    Calls Tryz.prog 65 #[.agg u] w (nK w (Fr.check (Fr.head f))):=by
  obtain⟨sp,sc,bp,bc,ep,ec,rfl,h1,h2,h3,h4,h5,h6,h7,h8,h9⟩:=hx.out
  unfold av
  obtain⟨w0,hw0⟩:∃w0,w0=w.alloc (.cells #[.int .i64 3,.int .i64 f.number,.slice sp f.cols.length sc,.int .i64 f.seq,.int .i64 f.first,.int .i64 f.rows,.slice bp f.block.length bc,.int .i64 f.index.at_,.int .i64 f.index.frames,.int .i64 f.index.rows,.slice ep f.index.entries.length ec] 36):=⟨_,rfl⟩
  have hz0:w0.1.size=w.1.size+1:=by rw[hw0];simp
  have HB0:Hid (Below w.1.size w w0):=by rw[hw0];exact vY
  have hK0:w0.1[w.1.size]?=some (.cells #[.int .i64 3,.int .i64 f.number,.slice sp f.cols.length sc,.int .i64 f.seq,.int .i64 f.first,.int .i64 f.rows,.slice bp f.block.length bc,.int .i64 f.index.at_,.int .i64 f.index.frames,.int .i64 f.index.rows,.slice ep f.index.entries.length ec] 36 (0,0)):=by rw[hw0];exact ag w _
  obtain⟨w1,hw1⟩:∃w1,w1=w0.alloc (.cells #[.int .u8 3] 5):=⟨_,rfl⟩
  have hz1:w1.1.size=w.1.size+2:=by rw[hw1];simp[hz0]
  have HB01:Hid (Below w0.1.size w0 w1):=by rw[hw1];exact vY
  have HL1:Hid (Has w1 w0.1.size (.slice (some ⟨w.1.size+1,0,none⟩) 1 1) [3]):=by
    have:=bF (B:=w0.1.size) (w:=w0) [3] (C:=#[.int .u8 3]) rfl vX (by simp)
    rw[<-hw1] at this
    show Has _ _ _ _
    rw[hz0] at this ⊢
    exact this
  obtain⟨wX,hwX⟩:∃wX,wX=w1.alloc (.cells #[.int .i64 f.index.at_,.int .i64 f.index.frames,.int .i64 f.index.rows,.slice ep f.index.entries.length ec] 34):=⟨_,rfl⟩
  have hzX:wX.1.size=w.1.size+3:=by rw[hwX];simp[hz1]
  have HB1X:Hid (Below w1.1.size w1 wX):=by rw[hwX];exact vY
  have hKX:wX.1[w.1.size+2]?=some (.cells #[.int .i64 f.index.at_,.int .i64 f.index.frames,.int .i64 f.index.rows,.slice ep f.index.entries.length ec] 34 (0,0)):=by rw[hwX,<-hz1];exact ag w1 _
  obtain⟨w2,hw2⟩:∃w2,w2=wX.alloc (.cells #[.int .i64 f.index.at_,.int .i64 f.index.frames,.int .i64 f.index.rows,.int .i64 (f.index.entries.length:Int)] 2):=⟨_,rfl⟩
  have HBX2:Hid (Below wX.1.size wX w2):=by rw[hw2];exact vY
  have HW:Hid ((((w.alloc (.cells #[.int .i64 3,.int .i64 f.number,.slice sp f.cols.length sc,.int .i64 f.seq,.int .i64 f.first,.int .i64 f.rows,.slice bp f.block.length bc,.int .i64 f.index.at_,.int .i64 f.index.frames,.int .i64 f.index.rows,.slice ep f.index.entries.length ec] 36)).alloc (.cells #[.int .u8 3] 5)).alloc (.cells #[.int .i64 f.index.at_,.int .i64 f.index.frames,.int .i64 f.index.rows,.slice ep f.index.entries.length ec] 34)).alloc (.cells #[.int .i64 f.index.at_,.int .i64 f.index.frames,.int .i64 f.index.rows,.int .i64 (f.index.entries.length:Int)] 2)=w2):=by rw[hw2,hwX,hw1,hw0];exact rfl
  have hin:(0<=f.index.at_∧0<=f.index.frames∧0<=f.index.rows)∧f.index.entries.length<=64∧f.index.entries.all Fr.entOk=true:=by
    unfold Fr.err0 at he
    rw[if_neg (by omega),if_neg (by omega),if_pos hk] at he
    unfold Fr.idxErr at he
    by_cases hb:(Fr.within Fr.S f.index.at_&&Fr.within Fr.S f.index.frames&&Fr.within Fr.S f.index.rows)=false
    · rw[if_pos hb] at he;omega
    · rw[if_neg hb] at he
      rw[Bool.not_eq_false] at hb
      simp only[Bool.and_eq_true,Fr.within_iff] at hb
      by_cases h64:64<f.index.entries.length
      · rw[if_pos h64] at he;omega
      · rw[if_neg h64] at he
        by_cases hal:f.index.entries.all Fr.entOk=false
        · rw[if_pos hal] at he;omega
        · rw[Bool.not_eq_false] at hal
          exact⟨by omega,by omega,hal⟩
  obtain⟨v0,v1,v2,v3,v4,v5,v6,v7⟩:=hw
  unfold Fr.i64 at v6
  have HEw:Hid (∀e∈f.index.entries,(0<=e.at_∧e.at_<=9223372036854775807)∧(0<=e.row∧e.row<=9223372036854775807)∧(0<=e.sch∧e.sch<=9223372036854775807)):=fun e hm=>by
    have h1:=List.all_eq_true.1 hin.2.2 e hm
    unfold Fr.entOk at h1
    simp only[Bool.and_eq_true,Fr.within_iff] at h1
    have hs:Fr.S=1099511627776:=rfl
    rw[hs] at h1
    omega
  have hI:Ints w2 (w.1.size+3) [f.index.at_,f.index.frames,f.index.rows,(f.index.entries.length:Int)]:=by rw[hw2];exact ints_at hzX [f.index.at_,f.index.frames,f.index.rows,(f.index.entries.length:Int)] rfl
  have h64:=hin.2.1
  have HP:=vQ (gy (w.1.size+3) [f.index.at_,f.index.frames,f.index.rows,(f.index.entries.length:Int)] (by simp) (fun m hm=>by
      simp only[List.mem_cons,List.not_mem_nil,or_false] at hm
      omega) w2 hI)
  have hnl:(Fr.nums [f.index.at_,f.index.frames,f.index.rows,(f.index.entries.length:Int)]).length<=40:=by
    have g1:=Leb.put_length_le f.index.at_.toNat
    have g2:=Leb.put_length_le f.index.frames.toNat
    have g3:=Leb.put_length_le f.index.rows.toNat
    have g4:=Leb.put_length_le (f.index.entries.length:Int).toNat
    simp only[Fr.nums_cons,Fr.nums_nil,List.append_nil,List.length_append]
    omega
  have HHd:Hid (Fr.head f=3::(Fr.nums [f.index.at_,f.index.frames,f.index.rows,(f.index.entries.length:Int)]++(f.index.entries.map Fr.entB).flatten)):=by
    show _=_
    unfold Fr.head Fr.fields
    rw[if_neg (by omega),if_neg (by omega),hk]
    rfl
  have HB0X:Hid (Below w0.1.size w0 wX):=HB01.out.trans (HB1X.out.mono HB01.out.size)
  have HB02:Hid (Below w0.1.size w0 w2):=HB0X.out.trans (HBX2.out.mono HB0X.out.size)
  have HB12:Hid (Below w1.1.size w1 w2):=HB1X.out.trans (HBX2.out.mono HB1X.out.size)
  have HEs:=vQ h9
  rw[hk]
  have HK0:=vQ hK0
  have HKX:=vQ ((HBX2.out.block _ (by omega)).trans hKX)
  obtain⟨ns,hns⟩:∃ns,ns=Fr.nums [f.index.at_,f.index.frames,f.index.rows,(f.index.entries.length:Int)]:=⟨_,rfl⟩
  rw[<-hns] at HP hnl HHd
  have hz2:w2.1.size=w.1.size+4:=by rw[hw2];simp[hzX]
  clear hw0 hw1 hwX hw2 hK0 hKX hx h3 h6 h9 hk he hI hin hns v0 v1 v2 v3 v4 v5 v6 v7
  go_enter Tryz.func65,Tryz.ntmps65
  go_wp2_with fail
  rw[HW.out]
  refine HP.out.mono ?_
  rintro e w3 ⟨p3,cap3,rfl,hh3,hb3⟩
  have HB03:=vQ (HB02.out.trans (hb3.mono HB02.out.size))
  have HB13:=vQ (HB12.out.trans (hb3.mono HB12.out.size))
  have HKX3:=vQ ((hb3.block _ (by omega)).trans HKX.out)
  have HA3:=vQ (bP hh3)
  have HL3:=vQ (HL1.out.on HB13.out)
  have hz3:=hb3.size
  clear hh3 hb3 HP HW HKX
  have hz0':=HB03.out.size
  go_wp2_with (first
    | (at_builtin
       refine au HL3.out HA3.out (by simp only[List.length_cons,List.length_nil];omega) (by omega) rfl rfl rfl rfl rfl ?_
       intro ys4 q4 cap4 W4 HY4 hh4 ha4 hk4
       have HBy4:=vQ (ar ha4 HL3.out (by omega))
       have HHy4:=vQ hh4
       have HKX4:=vQ ((ha4.block (w.1.size+2) (by omega) (fun hc=>by have h:some (w.1.size+1)=some (w.1.size+2):=hc;injection h with h;omega)).trans HKX3.out)
       have hz4:=ha4.size
       clear ha4 hk4 hh4)
    |fail)
  have HB04:Hid (Below w0.1.size w0 W4):=HB03.out.trans HBy4.out
  have hy4:ys4.length<=41:=by rw[HY4.out];simp;omega
  have HKX4l:Hid (w.1.size+2<W4.1.size):=vQ (by omega:w.1.size+2<W4.1.size)
  go_loopw [4,6] (fun v4 v6 wr=>∃(k:Nat) (xs:L8),k<=f.index.entries.length∧v6=.int .i64 k∧xs.length<=30*k∧Hid (xs=((f.index.entries.take k).map Fr.entB).flatten∧Has wr W4.1.size v4 xs∧Below W4.1.size W4 wr)) (fun _ v6 _=>f.index.entries.length-(intOf v6).toNat)
  case atStart=>exact⟨0,[],by omega,rfl,by simp,rfl,aR _ _,vZ⟩
  case round=>
    obtain⟨k,xs,hk,rfl,hxl,HK⟩:=hrel
    have HO:=vQ HK.out.2.1
    have HBr:=vQ HK.out.2.2
    have HXs:=vQ HK.out.1
    have hsr:=HBr.out.size
    have hKr:=(HBr.out.block _ HKX4l.out).trans HKX4.out
    have n3:=aa hKr 3
    simp only[List.getElem?_toArray,List.getElem?_cons_zero,List.getElem?_cons_succ] at n3
    by_cases hlt:k<f.index.entries.length
    · have hlt':(k:Int)<(f.index.entries.length:Int):=by omega
      obtain⟨bb,ob,hep,hbb,a0,a1,a2⟩:=(HEs.out.on (HB0.out.trans ((HB04.out.trans (HBr.out.mono (by omega))).mono HB0.out.size))) k hlt
      have hu:=HEw.out f.index.entries[k] (List.getElem_mem hlt)
      subst hep
      obtain⟨ea,hea⟩:∃ea,ea=f.index.entries[k].at_:=⟨_,rfl⟩
      obtain⟨eb,heb⟩:∃eb,eb=f.index.entries[k].row:=⟨_,rfl⟩
      obtain⟨eC,hec⟩:∃eC,eC=f.index.entries[k].sch:=⟨_,rfl⟩
      have HE1:=vQ (eg f.index.entries k hlt)
      have HEb:Hid (Fr.entB f.index.entries[k]=Fr.nums [ea,eb,eC]):=by
        show _=_
        rw[hea,heb,hec]
        rfl
      rw[<-hea] at a0 hu
      rw[<-heb] at a1 hu
      rw[<-hec] at a2 hu
      have HP:Hid (Calls Tryz.prog 90 #[.slice (some ⟨wr.1.size,0,none⟩) 3 3] (wr.alloc (.cells #[.int .i64 ea,.int .i64 eb,.int .i64 eC] 2)).drew fun e w''=>∃p cap,e=.returned (.slice p (Fr.nums [ea,eb,eC]).length cap)∧At w'' p (Fr.nums [ea,eb,eC])∧Below wr.1.size wr w''):=by
        refine(gy wr.1.size [ea,eb,eC] (by simp) (fun m hm=>?_) _ (cK wr [ea,eb,eC] rfl).drew).mono ?_
        · simp only[List.mem_cons,List.not_mem_nil,or_false] at hm
          omega
        · rintro e w'' ⟨p,cap,rfl,hh,hb⟩
          have hb0:Below wr.1.size wr (wr.alloc (.cells #[.int .i64 ea,.int .i64 eb,.int .i64 eC] 2)).drew:=vY.drew
          exact⟨p,cap,rfl,bP hh,hb0.trans (hb.mono hb0.size)⟩
      have hul:(Fr.nums [ea,eb,eC]).length<=30:=by
        have h1:=Leb.put_length_le ea.toNat
        have h2:=Leb.put_length_le eb.toNat
        have h3:=Leb.put_length_le eC.toNat
        simp only[Fr.nums_cons,Fr.nums_nil,List.append_nil,List.length_append]
        omega
      obtain⟨u,hu'⟩:∃u,u=Fr.nums [ea,eb,eC]:=⟨_,rfl⟩
      rw[<-hu'] at HP hul HEb
      clear hu' hea heb hec hu HK hKr
      go_wp2_with fail
      go_region_held3 (fun w'=>w'.cell? ⟨bb,ob+k*3,none⟩=some (.int .i64 ea)∧w'.cell? ⟨bb,ob+k*3+1,none⟩=some (.int .i64 eb)∧w'.cell? ⟨bb,ob+k*3+2,none⟩=some (.int .i64 eC)∧w'.cell? ⟨w.1.size+2,3,none⟩=some (.slice (some ⟨bb,ob,none⟩) f.index.entries.length ec)) (go_keep) (first
        | (go_at_call 90;refine HP.out.mono ?_;rintro e w5 ⟨p5,cap5,rfl,ha5,hb5⟩;have z0:=ab hb5 a0;have z1:=ab hb5 a1;have z2:=ab hb5 a2;have z3:=ab hb5 n3;have HA5:=vQ ha5;have HB5:=vQ hb5;have hs5:=hb5.size;clear ha5 hb5))
      go_wp2_with (first
        | (at_builtin
           refine au (HO.out.on HB5.out) HA5.out (by omega) (by omega) rfl rfl rfl rfl rfl ?_
           intro ys q6 cap6 W HY hh ha hk2
           have HB6:=vQ (ar ha (HO.out.on HB5.out) (by omega))
           have HYs:=vQ hh
           have hyl:ys.length<=30*(k+1):=by rw[HY.out,List.length_append];omega
           clear ha hk2 hh)
        |fail)
      go_roundw
      case rel=>
        refine⟨k+1,ys,by omega,by go_num,hyl,?_,HYs.out,(HBr.out.trans (HB5.out.mono hsr)).trans HB6.out⟩
        rw[HY.out,HXs.out,HE1.out,HEb.out]
      case measure=>simp[intOf];omega
    · have hkk:k=f.index.entries.length:=by omega
      subst hkk
      have HXe:Hid (xs=(f.index.entries.map Fr.entB).flatten):=by
        show _=_
        rw[HXs.out,List.take_length]
      obtain⟨p8,cap8,rfl,ha8,-⟩:=HO.out.at
      have HA8:=vQ ha8
      have HH8:=vQ (HHy4.out.on HBr.out)
      have HB08:=vQ (HB04.out.trans (HBr.out.mono (by omega)))
      have hz8:=HB08.out.size
      clear ha8 HK hKr
      go_wp2_with (first
        | (at_builtin
           refine au HH8.out HA8.out (by first | omega | (simp only[List.length_cons,List.length_nil];omega)) (by omega) rfl rfl rfl rfl rfl ?_
           intro ys6 q6 cap6 W6 HY6 hh6 ha6 hk6
           have HBy6:=vQ (ar ha6 HH8.out (by omega))
           have HHy6:=vQ hh6
           clear ha6 hk6 hh6)
        |fail)
      have HB06:Hid (Below w0.1.size w0 W6):=HB08.out.trans HBy6.out
      have hy6:ys6.length<=3000:=by rw[HY6.out,List.length_append];omega
      have HZ:Hid (Fr.check ys6=Fr.check (Fr.head f)):=by show _=_;rw[HY6.out,HY4.out,HXe.out,HHd.out];rfl
      have HCk:=vQ (eO q6 cap6 ys6 (by omega) W6 (bP HHy6.out))
      have HBW:=HB06
      go_wp2_with fail
      refine HCk.out.mono ?_
      rintro e w9 ⟨q9,cap9,rfl,hh9,hb9⟩
      have HB9:=vQ (HB0.out.trans ((HBW.out.trans (hb9.mono HBW.out.size)).mono HB0.out.size))
      have HH9:=vQ (hh9.lower (B':=w.1.size) (Nat.le_trans HB0.out.size HBW.out.size))
      clear hh9 hb9 HCk
      go_wp2
      go_ret
      rw[<-HZ.out]
      exact⟨_,_,rfl,HH9.out,HB9.out⟩
theorem r6(f:Fr)(hbk:f.block.length<=140737488351232)(hw:f.wf)(he:Fr.err0 f=0)(u:AV)(w:World)(hx:aB w u f):
  Calls Tryz.prog 65 #[.agg u] w (nK w (Fr.check (Fr.head f))):=by
 rcases Fr.head_fields he with h1 | h2 | h3
 ·exact nY f h1 hw he u w hx
 ·exact nX f h2 hbk hw he u w hx
 ·exact nW f h3 hw he u w hx
end
section
open Go.RowKit
theorem dt:∀l:List Int,(Fr.nums l).length<=10*l.length
 | []=>by simp[Fr.nums_nil]
 |n::l=>by
  rw[Fr.nums_cons,List.length_append,List.length_cons]
  have h1:=Leb.put_length_le n.toNat
  have h2:=dt l
  omega
theorem jt:∀es:List Ent,((es.map Fr.entB).flatten).length<=30*es.length
 | []=>by simp
 |e::es=>by
  rw[List.map_cons,List.flatten_cons,List.length_append,List.length_cons]
  have h1:(Fr.entB e).length<=30:=dt [e.at_,e.row,e.sch]
  have h2:=jt es
  omega
theorem oK{f:Fr}(he:Fr.err0 f=0)(hb:f.block.length<=140737488351232):(Fr.check (Fr.head f)).length<=140737488400000:=by
 rw[Fr.check_length]
 unfold Fr.head
 rw[List.length_cons]
 unfold Fr.fields
 have hk:=Fr.head_fields he
 unfold Fr.err0 at he
 by_cases h1:f.kind=1
 ·rw[if_pos h1] at he ⊢
  rw[List.length_append]
  have g1:=dt [f.number]
  by_cases hb:Fr.within Fr.N f.number=false
  ·rw[if_pos hb] at he;omega
  ·rw[if_neg hb] at he
   have g2:=(Sch.err_open he).2.2.2
   simp only[List.length_cons,List.length_nil] at g1
   omega
 ·rw[if_neg h1] at he ⊢
  by_cases h2:f.kind=2
  ·rw[if_pos h2,List.length_append]
   have g1:=dt [f.number,f.seq,f.first,f.rows]
   simp only[List.length_cons,List.length_nil] at g1
   omega
  ·rw[if_neg h2] at he ⊢
   rw[if_pos (by omega)] at he
   have g1:=dt [f.index.at_,f.index.frames,f.index.rows,(f.index.entries.length:Int)]
   have g2:=jt f.index.entries
   simp only[List.length_cons,List.length_nil] at g1
   rw[List.length_append]
   unfold Fr.idxErr at he
   by_cases hb:(Fr.within Fr.S f.index.at_&&Fr.within Fr.S f.index.frames&&Fr.within Fr.S f.index.rows)=false
   ·rw[if_pos hb] at he;omega
   ·rw[if_neg hb] at he
    by_cases h64:64<f.index.entries.length
    ·rw[if_pos h64] at he;omega
    ·omega
theorem kB(f:Fr)(hbk:f.block.length<=140737488351232)(hw:f.wf)(u:AV)(w:World)(hx:aB w u f):
    Calls Tryz.prog 31 #[.agg u] w (iY w (Fr.err f) (0::(Fr.run f++[0]))):=by
  obtain⟨sp,sc,bp,bc,ep,ec,hu,-⟩:=hx.out
  have HFl:=vQ hx
  rw[hu] at HFl ⊢
  unfold av at HFl ⊢
  have HWf:=vQ hw
  obtain⟨w0,hw0⟩:∃w0,w0=w.alloc (.cells #[.int .i64 f.kind,.int .i64 f.number,.slice sp f.cols.length sc,.int .i64 f.seq,.int .i64 f.first,.int .i64 f.rows,.slice bp f.block.length bc,.int .i64 f.index.at_,.int .i64 f.index.frames,.int .i64 f.index.rows,.slice ep f.index.entries.length ec] 36):=⟨_,rfl⟩
  have HB0:Hid (Below w.1.size w w0):=by rw[hw0];exact vY
  have HW0:Hid (w.alloc (.cells #[.int .i64 f.kind,.int .i64 f.number,.slice sp f.cols.length sc,.int .i64 f.seq,.int .i64 f.first,.int .i64 f.rows,.slice bp f.block.length bc,.int .i64 f.index.at_,.int .i64 f.index.frames,.int .i64 f.index.rows,.slice ep f.index.entries.length ec] 36)=w0):=by rw[hw0];exact rfl
  have HK0:Hid (w0.1[w.1.size]?=some (.cells #[.int .i64 f.kind,.int .i64 f.number,.slice sp f.cols.length sc,.int .i64 f.seq,.int .i64 f.first,.int .i64 f.rows,.slice bp f.block.length bc,.int .i64 f.index.at_,.int .i64 f.index.frames,.int .i64 f.index.rows,.slice ep f.index.entries.length ec] 36 (0,0))):=by rw[hw0];exact ag w _
  have hz0:w0.1.size=w.1.size+1:=by rw[hw0];simp
  have HWr:=vQ (pL f hw #[.int .i64 f.kind,.int .i64 f.number,.slice sp f.cols.length sc,.int .i64 f.seq,.int .i64 f.first,.int .i64 f.rows,.slice bp f.block.length bc,.int .i64 f.index.at_,.int .i64 f.index.frames,.int .i64 f.index.rows,.slice ep f.index.entries.length ec] w0 (HFl.out.on HB0.out))
  have HEr:Hid (Fr.err f=if Fr.err0 f≠0 then Fr.err0 f else if 2200<(Fr.run f).length then 2 else 0):=rfl
  have HBd:=vQ (fun(he:Fr.err0 f=0) w' (hb:Below w.1.size w w')=>r6 f hbk HWf.out he #[.int .i64 f.kind,.int .i64 f.number,.slice sp f.cols.length sc,.int .i64 f.seq,.int .i64 f.first,.int .i64 f.rows,.slice bp f.block.length bc,.int .i64 f.index.at_,.int .i64 f.index.frames,.int .i64 f.index.rows,.slice ep f.index.entries.length ec] w' (HFl.out.on hb))
  have HLn:=vQ (fun(he:Fr.err0 f=0)=>oK he hbk)
  have HRn:Hid (Fr.run f=Cob.stuff (Fr.check (Fr.head f))):=rfl
  obtain⟨er,her⟩:∃er,er=Fr.err f:=⟨_,rfl⟩
  obtain⟨e0,he0⟩:∃e0,e0=Fr.err0 f:=⟨_,rfl⟩
  obtain⟨rn,hrn⟩:∃rn,rn=Fr.run f:=⟨_,rfl⟩
  obtain⟨bd,hbd⟩:∃bd,bd=Fr.check (Fr.head f):=⟨_,rfl⟩
  rw[<-her,<-hrn]
  rw[<-her,<-he0,<-hrn] at HEr
  rw[<-hrn,<-hbd] at HRn
  rw[<-he0] at HWr
  rw[<-he0,<-hbd] at HBd
  rw[<-he0,<-hbd] at HLn
  clear hu hw0 hx hw her he0 hrn hbd hbk
  go_enter Tryz.func31,Tryz.ntmps31
  go_wp2_with fail
  rw[HW0.out]
  refine HWr.out.mono ?_
  rintro e w1 ⟨rfl,hb1⟩
  have HB1:=vQ (HB0.out.trans (hb1.mono HB0.out.size))
  have hK1:=(hb1.block _ (by omega)).trans HK0.out
  clear hb1 HWr HW0
  by_cases hz:e0=0
  · subst hz
    have HEr2:Hid (er=if 2200<rn.length then 2 else 0):=HEr.out
    have HB:=vQ (HBd.out rfl w1 HB1.out)
    have hln:=HLn.out rfl
    have hz1:=HB1.out.size
    clear HEr HBd HLn
    have x0:=aa hK1 0
    have x1:=aa hK1 1
    have x2:=aa hK1 2
    have x3:=aa hK1 3
    have x4:=aa hK1 4
    have x5:=aa hK1 5
    have x6:=aa hK1 6
    have x7:=aa hK1 7
    have x8:=aa hK1 8
    have x9:=aa hK1 9
    have x10:=aa hK1 10
    simp only[List.getElem?_toArray,List.getElem?_cons_zero,List.getElem?_cons_succ] at x0 x1 x2 x3 x4 x5 x6 x7 x8 x9 x10
    clear hK1
    go_wp2_with fail
    refine HB.out.mono ?_
    rintro e w2 ⟨q2,cap2,rfl,hh2,hb2⟩
    have HB2:=vQ (HB1.out.trans (hb2.mono hz1))
    have hS:=jz q2 cap2 bd (by omega) w2 (bP hh2)
    rw[<-HRn.out] at hS
    have HS:=vQ hS
    have hz2:=HB2.out.size
    clear hh2 hb2 HB hS x0 x1 x2 x3 x4 x5 x6 x7 x8 x9 x10
    go_wp2_with fail
    refine HS.out.mono ?_
    rintro e w3 ⟨g3,cap3,rfl,hm3,hb3⟩
    have HB3:=vQ (HB2.out.trans (hb3.mono hz2))
    have hz3:=HB3.out.size
    have HM3:=vQ hm3
    clear hb3 HS hm3
    by_cases hlong:2200<rn.length
    · have HEr3:Hid (er=2):=HEr2.out.trans (if_pos hlong)
      have gl:(2200:Int)<(rn.length:Int):=by omega
      clear hlong HEr2
      go_wp2
      go_ret2
      rw[HEr3.out]
      exact aJ (by omega) HB3.out
    · have HEr3:Hid (er=0):=HEr2.out.trans (if_neg hlong)
      have gl:¬(2200:Int)<(rn.length:Int):=by omega
      clear HEr2
      have HL:=vQ (bF (B:=w3.1.size) (w:=w3) [0] (C:=#[.int .u8 0]) rfl vX (by simp))
      have HB34:Hid (Below w3.1.size w3 (w3.alloc (.cells #[.int .u8 0] 5))):=vY
      have HA4:=vQ (HM3.out.at.on HB34.out)
      go_wp2_with (first
        | (at_builtin
           refine au HL.out HA4.out (by simp only[List.length_cons,List.length_nil];omega) HB34.out.size rfl rfl rfl rfl rfl ?_
           intro ys q5 cap5 W5 HY hh5 ha5 hk5
           have HB5:=vQ (HB34.out.trans (ar ha5 HL.out HB34.out.size))
           have HH5:=vQ hh5
           have hyl:ys.length<=2201:=by rw[HY.out];simp;omega
           have HYL:Hid (ys.length<=2201):=hyl
           have hz5:=HB5.out.size
           clear ha5 hk5 hh5 hyl)
        | (at_builtin
           refine aV HH5.out 0 (by have:=HYL.out;omega) hz5 rfl rfl rfl rfl rfl rfl ?_
           intro g6 cap6 W6 hm6 hb6
           have HM6:=vQ hm6
           have HB6:=vQ (HB3.out.trans ((HB5.out.trans hb6).mono hz3))
           clear hm6 hb6)
        |fail)
      go_ret2
      have e6:ys++[0]=0::(rn++[0]):=by rw[HY.out];rfl
      have h6:=HM6.out.has
      rw[e6] at h6
      have e7:ys.length+1=(0::(rn++[0])).length:=by rw[<-e6,List.length_append];rfl
      rw[e7]
      exact .inl ⟨HEr3.out,_,_,rfl,h6.lower hz3,HB6.out⟩
  · have g0:((e0:Int) != 0)=true:=ca (by omega)
    have HEr2:Hid (er=e0):=HEr.out.trans (if_pos hz)
    have HZ:=vQ hz
    clear hz HEr HBd HLn hK1
    go_wp2
    go_ret2
    rw[HEr2.out]
    exact aJ HZ.out HB1.out
end
end Go.Proofs.YtlgfdgdlaahpfaaGreatDoor
