import Derived.Test.YtllbniljgcgbeaaGreatDoorA13
set_option maxRecDepth 100000
set_option maxHeartbeats 4000000
namespace Go.Proofs.YtllbniljgcgbeaaGreatDoor
section
open Go.RowKit
attribute [local go_sem] ah
theorem ey{B:Nat}{v:Value}{xs:L8}{t:ByteArray}{w:World}(hown:Has w B v xs)(hlen:xs.length+t.size<=140737488355328)(hB:B<=w.1.size){ops:Array Oper}{o:Oper}{a:Act}{K:Act->World->Prop}{Q:Exit->Act->World->Prop}{E:Prop}(s x:Operand)(ht:o.type=79)(hg:o.guard=none)(hop:o.op=Op.call { callee:=Callee.builtin Builtin.append,args:=#[s,x],argTypes:=#[79,9] })(hs:a.eval s=v)(hx:a.eval x=.string t)(hK:∀q cap W ys,Hid (ys=xs++t.data.toList)->aQ w B v W (.slice q ys.length cap) ys->K (a.put o.dst (.slice q ys.length cap)) W):
  if Region.wanted o (yielded ops a.tmps)=true then Oper.wp Tryz.prog o a w K Q else E:=by
 have hw:Region.wanted o (yielded ops a.tmps)=true:=by simp[Region.wanted,hg]
 rw[if_pos hw]
 obtain⟨q,cap,W,⟨hr⟩,hm,ha,hb3⟩:=kE B v xs t w hown hlen hB
 unfold Oper.wp
 have he:(execOp a.eval o).run Tryz.prog w=.ok (.value (.slice q (xs++t.data.toList).length cap)) W:=by
  simp only[execOp,hop,resolve,invoke,builtin]
  simp[hs,hx,ht,hr,Result.andThen]
 rw[he]
 exact hK q cap W (xs++t.data.toList) (tQ rfl) ⟨hm,ha,hb3⟩
theorem gm(x:Nat):(text x).length<=100:=by
 unfold text
 split
 ·simp
 split
 ·simp
 split
 ·simp
 split
 ·simp
 split
 ·rename_i h
  unfold bK at h
  simp only[Bool.and_eq_true,decide_eq_true_eq] at h
  have:=cF (Flt.trunc x) (by omega)
  omega
 ·rw[List.length_cons,Hex.digits_length];omega
def qi(x:V):Prop:=∀(w0 w:World) (u:AV) (v:Value) (xs:L8),Hv w0->av w0 u x->Below w0.1.size w0 w->Has w w0.1.size v xs->xs.length+(Tx.val text x).length<=140000000000000->Calls Tryz.prog 42 #[v,.agg u] w (bG w w0.1.size (xs++Tx.val text x))
def vjn(ys:List V)(j:Nat):Tx.Bs:=Tx.join ((ys.take j).map (Tx.val text))
theorem oz(ys:List V)(j:Nat)(h:j<ys.length):vjn ys (j+1)=vjn ys j++((if j=0 then [] else [44,32])++Tx.val text ys[j]):=by
 have:=pC text ys j h
 unfold itd at this
 rw[List.cons_append] at this
 exact(List.cons.inj this).2
theorem qq(ys:List V)(j:Nat)(h:ys.length<=j):vjn ys j=Tx.join (ys.map (Tx.val text)):=by unfold vjn;rw[List.take_of_length_le h]
theorem qo(ys:List V)(j:Nat):(vjn ys j).length<=(Tx.join (ys.map (Tx.val text))).length:=by
 have:=fp (ys.map (Tx.val text)) j
 unfold vjn
 rw[List.map_take]
 exact this
theorem cR(ys:List V)(hn:ys.length<=2199023255552)(ih:∀x∈ys,qi x)(p:OA)(c:Nat)(w0 w:World)(hv0:Hv w0)(hx:∀j (hj:j<ys.length),∃u',av w0 u' ys[j]∧Item w0 p j u')(hb0:Below w0.1.size w0 w)(v:Value)(xs:L8)(hv:Has w w0.1.size v xs)(hlen:xs.length+(Tx.join (ys.map (Tx.val text))).length<=140000000000000):
    Calls Tryz.prog 46 #[v,.slice p ys.length c] w (bG w w0.1.size (xs++Tx.join (ys.map (Tx.val text)))):=by
  have hBs:=hb0.size
  have t2:(ByteArray.mk #[44,32]).size=2:=rfl
  obtain⟨q4,cap4,rfl,-,-⟩:=hv.at
  have HV:=tQ hv
  have HB0:=tQ hb0
  have HX:=tQ hx
  have HIH:=tQ ih
  have HH0:=tQ hv0
  obtain⟨n,hnn⟩:∃n,n=ys.length:=⟨_,rfl⟩
  have HN:=tQ hnn
  rw[<-hnn] at hn ⊢
  have hnI:(n:Int)<=2199023255552:=by omega
  have HLen:Hid (∀j,xs.length+(vjn ys j).length<=140000000000000):=fun j=>by have:=qo ys j;omega
  have HEnd:Hid (∀j,n<=j->xs++vjn ys j=xs++Tx.join (ys.map (Tx.val text))):=fun j hj=>by rw[qq ys j (by omega)]
  obtain⟨L,hL⟩:∃L,L=xs++Tx.join (ys.map (Tx.val text)):=⟨_,rfl⟩
  rw[<-hL] at HEnd ⊢
  have HZ0:Hid (xs=xs++vjn ys 0):=by show _=_;simp[vjn,Tx.join]
  clear hv hb0 hx ih hv0 hnn hlen hL
  go_enter Tryz.func46,Tryz.ntmps46
  go_wp2_with fail
  go_loopw [0,9] (fun v0 v9 wr=>∃(j:Nat) (zs:L8) (q:OA) (cap:Nat),j<=n∧v9=.int .i64 j∧v0=.slice q zs.length cap∧Hid (zs=xs++vjn ys j∧Grx w w0.1.size wr (.slice q zs.length cap) zs)) (fun _ v9 _=>n-(intOf v9).toNat)
  case atStart=>exact⟨0,xs,q4,cap4,by omega,rfl,rfl,HZ0.out,Grx.refl HV.out⟩
  case round=>
    obtain⟨j,zs,q,cap,hj,rfl,rfl,HL⟩:=hrel
    have hbr:Below w0.1.size w0 wr:=HB0.out.trans (HL.out.2.below hBs)
    by_cases hlt:j<n
    · have hltT:j<ys.length:=by have:=HN.out;omega
      obtain⟨ux,hvx,hix⟩:=HX.out j hltT
      obtain⟨bx,ox,kx,ix,fx,tx,qx,nx,cx,rfl,_,rfl,a0,a1,a2,a3,a4⟩:=(hix.on hbr).lies
      unfold cells5 at hvx
      have hj1:(j:Int)<(n:Int):=by omega
      obtain⟨wa,hwa⟩:∃wa,wa=wr.alloc (.cells #[.int .i64 kx,.int .i64 ix,.float .f64 fx,.string tx,.slice qx nx cx] 36):=⟨_,rfl⟩
      have hba:Below wr.1.size wr wa:=by rw[hwa];exact tY
      have hblk:wa.1[wr.1.size]?=some (.cells #[.int .i64 kx,.int .i64 ix,.float .f64 fx,.string tx,.slice qx nx cx] 36 (0,0)):=by rw[hwa];exact aj wr _
      have HBlk:=tQ hblk
      have HHa:=tQ (HL.out.2.has.on hba)
      have HGa:=tQ (HL.out.2.on hba)
      have hBa:w0.1.size<=wa.1.size:=Nat.le_trans hbr.size hba.size
      have hzl:zs.length<=140000000000000:=by rw[HL.out.1,List.length_append];exact HLen.out j
      have hl1:=HLen.out (j+1)
      have hnx:=oz ys j hltT
      have HC:Hid (∀w' v' l,Below w0.1.size w0 w'->Has w' w0.1.size v' l->l.length+(Tx.val text (ys[j]'hltT)).length<=140000000000000->Calls Tryz.prog 42 #[v',.agg #[.int .i64 kx,.int .i64 ix,.float .f64 fx,.string tx,.slice qx nx cx]] w' (bG w' w0.1.size (l++Tx.val text (ys[j]'hltT)))):=fun w' v' l h1 h2 h3=>HIH.out _ (List.getElem_mem hltT) w0 w' _ v' l HH0.out hvx h1 h2 h3
      have hWa:=tQ hwa
      have HBr:=tQ (HB0.out.trans (HGa.out.below hBs))
      obtain⟨tt,htt⟩:∃tt,tt=Tx.val text (ys[j]'hltT):=⟨_,rfl⟩
      rw[<-htt] at HC hnx
      clear hvx hix hwa htt
      by_cases hj0:j=0
      · have g0:¬(0:Int)<(j:Int):=by omega
        have g1:decide ((0:Int)<(j:Int))=false:=decide_eq_false g0
        have g2:decide (0<j)=false:=decide_eq_false (by omega)
        rw[if_pos hj0,List.nil_append] at hnx
        have HZ:Hid (zs++tt=xs++vjn ys (j+1)):=by show _=_;rw[HL.out.1,hnx,List.append_assoc]
        have hzt:zs.length+tt.length<=140000000000000:=by have:=congrArg List.length HZ.out;rw[List.length_append,List.length_append] at this;omega
        have d0:wa.cell? ⟨wr.1.size,0,none⟩=some (.int .i64 kx):=ab hblk 0
        have d1:wa.cell? ⟨wr.1.size,1,none⟩=some (.int .i64 ix):=ab hblk 1
        have d2:wa.cell? ⟨wr.1.size,2,none⟩=some (.float .f64 fx):=ab hblk 2
        have d3:wa.cell? ⟨wr.1.size,3,none⟩=some (.string tx):=ab hblk 3
        have d4:wa.cell? ⟨wr.1.size,4,none⟩=some (.slice qx nx cx):=ab hblk 4
        have HCC:=tQ (HC.out wa _ _ HBr.out HHa.out hzt)
        clear hnx hj0 HL hblk hba hbr hl1 HX HIH
        go_wp2_with fail
        rw[<-hWa.out]
        refine HCC.out.mono ?_
        intro e w4 hh
        obtain⟨q6,cap6,he6,hg6⟩:=hh.open
        subst he6
        have HG6:=tQ (HGa.out.trans hg6)
        obtain⟨l6,hl6⟩:∃l6,l6=zs++tt:=⟨_,rfl⟩
        rw[<-hl6] at HG6 HZ ⊢
        clear hh hg6 hl6 HCC
        go_wp2
        go_roundw
        case rel=>exact⟨j+1,l6,q6,cap6,by omega,by go_num,rfl,HZ.out,HG6.out⟩
        case measure=>simp[intOf];omega
      · have g0:(0:Int)<(j:Int):=by omega
        have g1:decide ((0:Int)<(j:Int))=true:=decide_eq_true g0
        have g2:decide (0<j)=true:=decide_eq_true (by omega)
        rw[if_neg hj0] at hnx
        have HZ:Hid (zs++[44,32]++tt=xs++vjn ys (j+1)):=by show _=_;rw[HL.out.1,hnx];simp only[List.append_assoc]
        have hzt:zs.length+2+tt.length<=140000000000000:=by have:=congrArg List.length HZ.out;rw[List.length_append,List.length_append,List.length_append] at this;simp only[List.length_cons,List.length_nil] at this;omega
        have d0:wa.cell? ⟨wr.1.size,0,none⟩=some (.int .i64 kx):=ab hblk 0
        clear hnx hj0 HL hba hbr hl1 HX HIH hblk
        go_wp2_with (first
          | (at_builtin;rw[<-hWa.out];refine aI (B:=w0.1.size) (t:=⟨#[44,32]⟩) HHa.out (by rw[show(ByteArray.mk #[44,32]).size=2 from rfl];omega) hBa rfl rfl rfl rfl rfl ?_;intro ys5 q5 cap5 W5 HY5 hH5 ha5 hb5
             have hgx:=Grx.of ⟨hH5,ha5,hb5⟩ HHa.out
             have HG5:=tQ (HGa.out.trans hgx)
             have hk5:=hgx.blk HBlk.out (by decide)
             have e0:W5.cell? ⟨wr.1.size,0,none⟩=some (.int .i64 kx):=ab hk5 0
             have e1:W5.cell? ⟨wr.1.size,1,none⟩=some (.int .i64 ix):=ab hk5 1
             have e2:W5.cell? ⟨wr.1.size,2,none⟩=some (.float .f64 fx):=ab hk5 2
             have e3:W5.cell? ⟨wr.1.size,3,none⟩=some (.string tx):=ab hk5 3
             have e4:W5.cell? ⟨wr.1.size,4,none⟩=some (.slice qx nx cx):=ab hk5 4
             clear hH5 ha5 hb5 hgx hk5)
          |fail)
        have hyl:ys5.length+tt.length<=140000000000000:=by
          rw[HY5.out,List.length_append]
          show zs.length+2+tt.length<=_
          exact hzt
        refine(HC.out W5 _ _ (HB0.out.trans (HG5.out.below hBs)) HG5.out.has hyl).mono ?_
        intro e w4 hh
        obtain⟨q6,cap6,he6,hg6⟩:=hh.open
        subst he6
        have HG6:=tQ (HG5.out.trans hg6)
        obtain⟨l6,hl6⟩:∃l6,l6=ys5++tt:=⟨_,rfl⟩
        have HZ6:Hid (l6=xs++vjn ys (j+1)):=by show _=_;rw[hl6,HY5.out];exact HZ.out
        rw[<-hl6] at HG6 ⊢
        clear hh hg6 hl6 HC
        go_wp2
        go_roundw
        case rel=>exact⟨j+1,l6,q6,cap6,by omega,by go_num,rfl,HZ6.out,HG6.out⟩
        case measure=>simp[intOf];omega
    · have hjn:¬(j:Int)<(n:Int):=by omega
      have HE:Hid (L=zs):=by
        show _=_
        rw[HL.out.1];exact(HEnd.out j (by omega)).symm
      have HG:=tQ HL.out.2
      clear HL hbr
      go_wp2
      go_ret
      rw[HE.out]
      exact⟨q,cap,rfl,HG.out⟩
end
section
open Go.RowKit
attribute [local go_sem] ah
section
variable {w w1:World} {B:Nat} {v v1:Value} {l:L8}
theorem aQ.undrew(h:aQ w.drew B v w1 v1 l):aQ w B v w1 v1 l:=⟨h.has,⟨h.aside.os,h.aside.tape,h.aside.output,h.aside.size,h.aside.block⟩,h.fresh⟩
end
theorem ml(p:OA)(c B:Nat)(w:World)(v:Value)(xs:L8)(hv:Has w B v xs)(hB:B<=w.1.size)(hl:xs.length<=140000000000000):Calls Tryz.prog 75 #[v,.slice p 0 c] w (bG w B (xs++[110,111,110,101])):=by
  have HV:=tQ hv
  have t4:(ByteArray.mk #[110,111,110,101]).size=4:=rfl
  clear hv
  go_enter Tryz.func75,Tryz.ntmps75
  go_wp2_with (first
    | (at_builtin;refine aI (B:=B) (t:=⟨#[110,111,110,101]⟩) HV.out (by rw[show(ByteArray.mk #[110,111,110,101]).size=4 from rfl];omega) hB rfl rfl rfl rfl rfl ?_;intro ys q4 cap4 W HY hH4 ha4 hb4
       have HG1:=tQ (Grx.of ⟨hH4,ha4,hb4⟩ HV.out)
       clear hH4 ha4 hb4)
    |fail)
  go_ret
  have e:xs++[110,111,110,101]=ys:=HY.out.symm
  rw[e]
  exact⟨q4,cap4,rfl,HG1.out⟩
theorem mj(x:V)(hx:qi x)(p:OA)(c:Nat)(w0 w:World)(hv0:Hv w0)(hxi:∀j (hj:j<[x].length),∃u',av w0 u' [x][j]∧Item w0 p j u')(hb0:Below w0.1.size w0 w)(v:Value)(xs:L8)(hv:Has w w0.1.size v xs)(hlen:xs.length+([115,111,109,101,40]++(Tx.val text x++[41])).length<=140000000000000):
    Calls Tryz.prog 75 #[v,.slice p 1 c] w (bG w w0.1.size (xs++([115,111,109,101,40]++(Tx.val text x++[41])))):=by
  have hBs:=hb0.size
  have t5:(ByteArray.mk #[115,111,109,101,40]).size=5:=rfl
  have HV:=tQ hv
  have HB0:=tQ hb0
  rw[List.length_append,List.length_append] at hlen
  simp only[List.length_cons,List.length_nil] at hlen
  have HC:Hid (∀w' v' l,Below w0.1.size w0 w'->Has w' w0.1.size v' l->l.length+(Tx.val text x).length<=140000000000000->Calls Tryz.prog 46 #[v',.slice p 1 c] w' (bG w' w0.1.size (l++Tx.val text x))):=fun w' v' l h1 h2 h3=>cR [x] (by simp) (fun y hy=>by rw[List.mem_singleton] at hy;rw[hy];exact hx) p c w0 w' hv0 hxi h1 v' l h2 h3
  obtain⟨tt,htt⟩:∃tt,tt=Tx.val text x:=⟨_,rfl⟩
  rw[<-htt] at HC hlen ⊢
  clear hv hb0 hx hv0 hxi htt
  go_enter Tryz.func75,Tryz.ntmps75
  go_wp2_with (first
    | (at_builtin;refine aI (B:=w0.1.size) (t:=⟨#[115,111,109,101,40]⟩) HV.out (by rw[show(ByteArray.mk #[115,111,109,101,40]).size=5 from rfl];omega) hBs rfl rfl rfl rfl rfl ?_;intro ys5 q5 cap5 W5 HY5 hH5 ha5 hb5
       have HG5:=tQ (Grx.of ⟨hH5,ha5,hb5⟩ HV.out)
       clear hH5 ha5 hb5)
    |fail)
  have hyl:ys5.length+tt.length<=139999999999999:=by
    rw[HY5.out,List.length_append]
    show xs.length+5+tt.length<=_
    omega
  refine(HC.out W5 _ _ (HB0.out.trans (HG5.out.below hBs)) HG5.out.has (by omega)).mono ?_
  intro e w4 hh
  obtain⟨q6,cap6,he6,hg6⟩:=hh.open
  subst he6
  have HG6:=tQ (HG5.out.trans hg6)
  obtain⟨l6,hl6⟩:∃l6,l6=ys5++tt:=⟨_,rfl⟩
  rw[<-hl6] at HG6 ⊢
  have HL6:=tQ hl6
  have hl6n:l6.length<=139999999999999:=by rw[hl6,List.length_append];exact hyl
  have hB6:w0.1.size<=w4.1.size:=Nat.le_trans hBs HG6.out.size
  have HH6:=tQ HG6.out.has
  clear hh hg6 hl6 HC
  go_wp2_with (first
    | (at_builtin;refine bo rfl HH6.out 41 (by omega) hB6 rfl rfl rfl rfl rfl rfl ?_
       intro q7 cap7 W7 zs7 HZ7 hg7
       have HG7:=tQ (HG6.out.trans (Grx.of hg7 HH6.out))
       clear hg7)
    |fail)
  go_ret
  have e:xs++([115,111,109,101,40]++(tt++[41]))=zs7:=by rw[HZ7.out,HL6.out,HY5.out];simp
  have e':xs++115::111::109::101::40::(tt++[41])=zs7:=e
  first | rw[e] | rw[e']
  exact⟨q7,cap7,rfl,HG7.out⟩
theorem av1(i:Int)(b:Nat)(t:ByteArray)(p:OA)(n c:Nat)(w0 w:World)(hv0:Hv w0)(hb0:Below w0.1.size w0 w)(v:Value)(xs:L8)(hv:Has w w0.1.size v xs)(hlen:xs.length<=140000000000000):Calls Tryz.prog 42 #[v,.agg #[.int .i64 1,.int .i64 i,.float .f64 b,.string t,.slice p n c]] w (bG w w0.1.size (xs++(if i=1 then [116,114,117,101] else [102,97,108,115,101]))):=by
 obtain⟨q0,cap0,rfl,-,-⟩:=hv.at
 have hBs:=hb0.size
 have hB7:=hv0.size
 obtain⟨W0,hW0⟩:∃W0,W0=w.alloc (.cells #[.int .i64 1,.int .i64 i,.float .f64 b,.string t,.slice p n c] 36):=⟨_,rfl⟩
 have hbW:Below w.1.size w W0:=by rw[hW0];exact tY
 have hblk:W0.1[w.1.size]?=some (.cells #[.int .i64 1,.int .i64 i,.float .f64 b,.string t,.slice p n c] 36 (0,0)):=by rw[hW0];exact aj w _
 have c0:W0.cell? ⟨w.1.size,0,none⟩=some (.int .i64 1):=ab hblk 0
 have c1:W0.cell? ⟨w.1.size,1,none⟩=some (.int .i64 i):=ab hblk 1
 have c2:W0.cell? ⟨w.1.size,2,none⟩=some (.float .f64 b):=ab hblk 2
 have c3:W0.cell? ⟨w.1.size,3,none⟩=some (.string t):=ab hblk 3
 have c4:W0.cell? ⟨w.1.size,4,none⟩=some (.slice p n c):=ab hblk 4
 have hvW:Hv W0:=(hv0.on hb0 hB7).on hbW (Nat.le_trans hB7 hBs)
 have HVW:=tQ (hv.on hbW)
 have HG0:=tQ (Grx.new hv hbW)
 have HB0:=tQ hb0
 have HBW:=tQ (hb0.trans (hbW.mono hBs))
 have hBW:w0.1.size<=W0.1.size:=Nat.le_trans hBs hbW.size
 have HW0:=tQ hW0
 have HC:=tQ (lf (i==1) w0.1.size W0 _ xs HVW.out hBW hlen)
 have e1:(if (i==1)=true then [116,114,117,101] else [102,97,108,115,101]:L8)=if i=1 then [116,114,117,101] else [102,97,108,115,101]:=by simp only[beq_iff_eq]
 rw[e1] at HC
 clear e1
 obtain⟨L,hL⟩:∃L,L=xs++(if i=1 then [116,114,117,101] else [102,97,108,115,101]):=⟨_,rfl⟩
 rw[<-hL] at HC ⊢
 clear hv hb0 hv0 hbW hblk hvW hW0 hL
 go_enter Tryz.func42,Tryz.ntmps42
 go_wp2_with fail
 rw[<-HW0.out]
 refine HC.out.mono ?_
 intro e w4 hh
 obtain⟨q6,cap6,he6,hg6⟩:=hh.open
 subst he6
 have HG6:=tQ (HG0.out.trans hg6)
 clear hh hg6 HC
 go_wp2
 go_ret
 exact⟨q6,cap6,rfl,HG6.out⟩
theorem av2(i:Int)(b:Nat)(t:ByteArray)(p:OA)(n c:Nat)(w0 w:World)(hv0:Hv w0)(hb0:Below w0.1.size w0 w)(v:Value)(xs:L8)(hv:Has w w0.1.size v xs)(hlen:xs.length<=140000000000000)(hi:-9223372036854775808<=i∧i<=9223372036854775807):Calls Tryz.prog 42 #[v,.agg #[.int .i64 2,.int .i64 i,.float .f64 b,.string t,.slice p n c]] w (bG w w0.1.size (xs++Lib.itoa i)):=by
 obtain⟨q0,cap0,rfl,-,-⟩:=hv.at
 have hBs:=hb0.size
 have hB7:=hv0.size
 obtain⟨W0,hW0⟩:∃W0,W0=w.alloc (.cells #[.int .i64 2,.int .i64 i,.float .f64 b,.string t,.slice p n c] 36):=⟨_,rfl⟩
 have hbW:Below w.1.size w W0:=by rw[hW0];exact tY
 have hblk:W0.1[w.1.size]?=some (.cells #[.int .i64 2,.int .i64 i,.float .f64 b,.string t,.slice p n c] 36 (0,0)):=by rw[hW0];exact aj w _
 have c0:W0.cell? ⟨w.1.size,0,none⟩=some (.int .i64 2):=ab hblk 0
 have c1:W0.cell? ⟨w.1.size,1,none⟩=some (.int .i64 i):=ab hblk 1
 have c2:W0.cell? ⟨w.1.size,2,none⟩=some (.float .f64 b):=ab hblk 2
 have c3:W0.cell? ⟨w.1.size,3,none⟩=some (.string t):=ab hblk 3
 have c4:W0.cell? ⟨w.1.size,4,none⟩=some (.slice p n c):=ab hblk 4
 have hvW:Hv W0:=(hv0.on hb0 hB7).on hbW (Nat.le_trans hB7 hBs)
 have HVW:=tQ (hv.on hbW)
 have HG0:=tQ (Grx.new hv hbW)
 have HB0:=tQ hb0
 have HBW:=tQ (hb0.trans (hbW.mono hBs))
 have hBW:w0.1.size<=W0.1.size:=Nat.le_trans hBs hbW.size
 have HW0:=tQ hW0
 have HC:=tQ (mm i hi w0.1.size W0 _ xs HVW.out hBW hlen hvW hB7)
 obtain⟨L,hL⟩:∃L,L=xs++Lib.itoa i:=⟨_,rfl⟩
 rw[<-hL] at HC ⊢
 clear hv hb0 hv0 hbW hblk hvW hW0 hL
 go_enter Tryz.func42,Tryz.ntmps42
 go_wp2_with fail
 rw[<-HW0.out]
 refine HC.out.mono ?_
 intro e w4 hh
 obtain⟨q6,cap6,he6,hg6⟩:=hh.open
 subst he6
 have HG6:=tQ (HG0.out.trans hg6)
 clear hh hg6 HC
 go_wp2
 go_ret
 exact⟨q6,cap6,rfl,HG6.out⟩
theorem av4(i:Int)(b:Nat)(t:ByteArray)(p:OA)(n c:Nat)(w0 w:World)(hv0:Hv w0)(hb0:Below w0.1.size w0 w)(v:Value)(xs:L8)(hv:Has w w0.1.size v xs)(hlen:xs.length<=140000000000000)(ht:t.size<=1024):Calls Tryz.prog 42 #[v,.agg #[.int .i64 4,.int .i64 i,.float .f64 b,.string t,.slice p n c]] w (bG w w0.1.size (xs++Tx.quo 34 t.data.toList)):=by
 obtain⟨q0,cap0,rfl,-,-⟩:=hv.at
 have hBs:=hb0.size
 have hB7:=hv0.size
 obtain⟨W0,hW0⟩:∃W0,W0=w.alloc (.cells #[.int .i64 4,.int .i64 i,.float .f64 b,.string t,.slice p n c] 36):=⟨_,rfl⟩
 have hbW:Below w.1.size w W0:=by rw[hW0];exact tY
 have hblk:W0.1[w.1.size]?=some (.cells #[.int .i64 4,.int .i64 i,.float .f64 b,.string t,.slice p n c] 36 (0,0)):=by rw[hW0];exact aj w _
 have c0:W0.cell? ⟨w.1.size,0,none⟩=some (.int .i64 4):=ab hblk 0
 have c1:W0.cell? ⟨w.1.size,1,none⟩=some (.int .i64 i):=ab hblk 1
 have c2:W0.cell? ⟨w.1.size,2,none⟩=some (.float .f64 b):=ab hblk 2
 have c3:W0.cell? ⟨w.1.size,3,none⟩=some (.string t):=ab hblk 3
 have c4:W0.cell? ⟨w.1.size,4,none⟩=some (.slice p n c):=ab hblk 4
 have hvW:Hv W0:=(hv0.on hb0 hB7).on hbW (Nat.le_trans hB7 hBs)
 have HVW:=tQ (hv.on hbW)
 have HG0:=tQ (Grx.new hv hbW)
 have HB0:=tQ hb0
 have HBW:=tQ (hb0.trans (hbW.mono hBs))
 have hBW:w0.1.size<=W0.1.size:=Nat.le_trans hBs hbW.size
 have HW0:=tQ hW0
 have HC:=tQ (eo 34 (by decide) t ht w0.1.size W0 _ xs HVW.out hBW hlen)
 obtain⟨L,hL⟩:∃L,L=xs++Tx.quo 34 t.data.toList:=⟨_,rfl⟩
 rw[<-hL] at HC ⊢
 clear hv hb0 hv0 hbW hblk hvW hW0 hL
 go_enter Tryz.func42,Tryz.ntmps42
 go_wp2_with fail
 rw[<-HW0.out]
 refine HC.out.mono ?_
 intro e w4 hh
 obtain⟨q6,cap6,he6,hg6⟩:=hh.open
 subst he6
 have HG6:=tQ (HG0.out.trans hg6)
 clear hh hg6 HC
 go_wp2
 go_ret
 exact⟨q6,cap6,rfl,HG6.out⟩
theorem av5(i:Int)(b:Nat)(t:ByteArray)(p:OA)(n c:Nat)(w0 w:World)(hv0:Hv w0)(hb0:Below w0.1.size w0 w)(v:Value)(xs:L8)(hv:Has w w0.1.size v xs)(hlen:xs.length<=140000000000000)(ht:t.size<=1024):Calls Tryz.prog 42 #[v,.agg #[.int .i64 5,.int .i64 i,.float .f64 b,.string t,.slice p n c]] w (bG w w0.1.size (xs++Tx.quo 39 t.data.toList)):=by
 obtain⟨q0,cap0,rfl,-,-⟩:=hv.at
 have hBs:=hb0.size
 have hB7:=hv0.size
 obtain⟨W0,hW0⟩:∃W0,W0=w.alloc (.cells #[.int .i64 5,.int .i64 i,.float .f64 b,.string t,.slice p n c] 36):=⟨_,rfl⟩
 have hbW:Below w.1.size w W0:=by rw[hW0];exact tY
 have hblk:W0.1[w.1.size]?=some (.cells #[.int .i64 5,.int .i64 i,.float .f64 b,.string t,.slice p n c] 36 (0,0)):=by rw[hW0];exact aj w _
 have c0:W0.cell? ⟨w.1.size,0,none⟩=some (.int .i64 5):=ab hblk 0
 have c1:W0.cell? ⟨w.1.size,1,none⟩=some (.int .i64 i):=ab hblk 1
 have c2:W0.cell? ⟨w.1.size,2,none⟩=some (.float .f64 b):=ab hblk 2
 have c3:W0.cell? ⟨w.1.size,3,none⟩=some (.string t):=ab hblk 3
 have c4:W0.cell? ⟨w.1.size,4,none⟩=some (.slice p n c):=ab hblk 4
 have hvW:Hv W0:=(hv0.on hb0 hB7).on hbW (Nat.le_trans hB7 hBs)
 have HVW:=tQ (hv.on hbW)
 have HG0:=tQ (Grx.new hv hbW)
 have HB0:=tQ hb0
 have HBW:=tQ (hb0.trans (hbW.mono hBs))
 have hBW:w0.1.size<=W0.1.size:=Nat.le_trans hBs hbW.size
 have HW0:=tQ hW0
 have HC:=tQ (eo 39 (by decide) t ht w0.1.size W0 _ xs HVW.out hBW hlen)
 obtain⟨L,hL⟩:∃L,L=xs++Tx.quo 39 t.data.toList:=⟨_,rfl⟩
 rw[<-hL] at HC ⊢
 clear hv hb0 hv0 hbW hblk hvW hW0 hL
 go_enter Tryz.func42,Tryz.ntmps42
 go_wp2_with fail
 rw[<-HW0.out]
 refine HC.out.mono ?_
 intro e w4 hh
 obtain⟨q6,cap6,he6,hg6⟩:=hh.open
 subst he6
 have HG6:=tQ (HG0.out.trans hg6)
 clear hh hg6 HC
 go_wp2
 go_ret
 exact⟨q6,cap6,rfl,HG6.out⟩
end
section
open Go.RowKit
attribute [local go_sem] ah
theorem av3(i:Int)(b:Nat)(t:ByteArray)(p:OA)(n c:Nat)(w0 w:World)(hv0:Hv w0)(hb0:Below w0.1.size w0 w)(v:Value)(xs:L8)(hv:Has w w0.1.size v xs)(hlen:xs.length<=140000000000000)(hbb:b<18446744073709551616):Calls Tryz.prog 42 #[v,.agg #[.int .i64 3,.int .i64 i,.float .f64 b,.string t,.slice p n c]] w (bG w w0.1.size (xs++(126::text b))):=by
  obtain⟨q0,cap0,rfl,-,-⟩:=hv.at
  have hBs:=hb0.size
  have hB7:=hv0.size
  obtain⟨W0,hW0⟩:∃W0,W0=w.alloc (.cells #[.int .i64 3,.int .i64 i,.float .f64 b,.string t,.slice p n c] 36):=⟨_,rfl⟩
  have hbW:Below w.1.size w W0:=by rw[hW0];exact tY
  have hblk:W0.1[w.1.size]?=some (.cells #[.int .i64 3,.int .i64 i,.float .f64 b,.string t,.slice p n c] 36 (0,0)):=by rw[hW0];exact aj w _
  have c0:W0.cell? ⟨w.1.size,0,none⟩=some (.int .i64 3):=ab hblk 0
  have c1:W0.cell? ⟨w.1.size,1,none⟩=some (.int .i64 i):=ab hblk 1
  have c2:W0.cell? ⟨w.1.size,2,none⟩=some (.float .f64 b):=ab hblk 2
  have c3:W0.cell? ⟨w.1.size,3,none⟩=some (.string t):=ab hblk 3
  have c4:W0.cell? ⟨w.1.size,4,none⟩=some (.slice p n c):=ab hblk 4
  have hvW:Hv W0:=(hv0.on hb0 hB7).on hbW (Nat.le_trans hB7 hBs)
  have HVW:=tQ (hv.on hbW)
  have HG0:=tQ (Grx.new hv hbW)
  have HB0:=tQ hb0
  have HBW:=tQ (hb0.trans (hbW.mono hBs))
  have hBW:w0.1.size<=W0.1.size:=Nat.le_trans hBs hbW.size
  have HW0:=tQ hW0
  have HRP:Hid (∀w',Hv w'->Calls Tryz.prog 73 #[.float .f64 b] w' fun e w''=>e=.returned (.string ⟨(text b).toArray⟩)∧Below w'.1.size w' w''):=fun w' h=>eh b hbb w' h.tab h.tz
  have hl:=gm b
  obtain⟨T,hT⟩:∃T,T=text b:=⟨_,rfl⟩
  rw[<-hT] at HRP hl ⊢
  have y2:∀o,(W0.alloc o).cell? ⟨w.1.size,2,none⟩=some (.float .f64 b):=fun o=>ab ((ao W0 o (ae hblk)).trans hblk) 2
  have HBlk:=tQ hblk
  have HHv:=tQ hvW
  have hts:(ByteArray.mk T.toArray).size=T.length:=by show T.toArray.size=_;simp
  clear hv hb0 hv0 hbW hblk hvW hW0 hT
  go_enter Tryz.func42,Tryz.ntmps42
  go_wp2_with fail
  rw[<-HW0.out]
  go_region_law (first
    | (refine bf (B:=w0.1.size) (xs:=xs) (v:=.slice q0 xs.length cap0) (w:=W0.drew) (H:=W0.1.size) (by rfl) HVW.out.drew 126 (by omega) hBW (.tmp 22) (.tmp 23) (by rfl) (by rfl) (by rfl) (by rfl) (by rfl) (by rfl) ?_
       intro q3 cap3 W5 ys5 HY5 hg3
       have hgx:=Grx.of hg3.undrew HVW.out
       have HG3:=tQ (HG0.out.trans hgx)
       have d2:W5.cell? ⟨w.1.size,2,none⟩=some (.float .f64 b):=ab (hgx.blk HBlk.out (by decide)) 2
       have HV5:=tQ (HHv.out.on (hgx.below hBW) hB7)
       have hyl:ys5.length<=140000000000001:=by(rw[HY5.out,List.length_append,List.length_singleton];omega)
       clear hg3 hgx)
    | (refine lz (.tmp 26) 33 (by rfl) (by rfl) (by rfl) Tryz.func73 (by kernel_rfl) (by rfl) (HRP.out W5 HV5.out) ?_
       rintro e w4 ⟨he4,hb4⟩
       refine⟨_,he4,?_⟩
       have HG4:=tQ (HG3.out.on hb4)
       clear he4 hb4)
    | (refine ey (B:=w0.1.size) (xs:=ys5) (t:=⟨T.toArray⟩) (w:=w4) (v:=.slice q3 ys5.length cap3) HG4.out.has (by omega) (Nat.le_trans hBs HG4.out.size) (.tmp 24) (.tmp 27) (by rfl) (by rfl) (by rfl) (by rfl) (by rfl) ?_
       intro q7 cap7 W7 zs7 HZ7 hg7
       have HG7:=tQ (HG4.out.trans (Grx.of hg7 HG4.out.has))
       clear hg7))
  all_goals
    go_wp2
    go_ret
    have e:xs++126::T=zs7:=by rw[HZ7.out,HY5.out];simp
    rw[e]
    exact⟨q7,cap7,rfl,HG7.out⟩
theorem av7(i:Int)(b:Nat)(t:ByteArray)(p:OA)(n c:Nat)(w0 w:World)(hv0:Hv w0)(hb0:Below w0.1.size w0 w)(v:Value)(xs:L8)(hv:Has w w0.1.size v xs)(L:Tx.Bs)(hlen:xs.length+L.length+2<=140000000000000)(hC:∀w' v' l,Below w0.1.size w0 w'->Has w' w0.1.size v' l->l.length+L.length<=140000000000000->Calls Tryz.prog 46 #[v',.slice p n c] w' (bG w' w0.1.size (l++L))):Calls Tryz.prog 42 #[v,.agg #[.int .i64 7,.int .i64 i,.float .f64 b,.string t,.slice p n c]] w (bG w w0.1.size (xs++(91::(L++[93])))):=by
  obtain⟨q0,cap0,rfl,-,-⟩:=hv.at
  have hBs:=hb0.size
  have hB7:=hv0.size
  obtain⟨W0,hW0⟩:∃W0,W0=w.alloc (.cells #[.int .i64 7,.int .i64 i,.float .f64 b,.string t,.slice p n c] 36):=⟨_,rfl⟩
  have hbW:Below w.1.size w W0:=by rw[hW0];exact tY
  have hblk:W0.1[w.1.size]?=some (.cells #[.int .i64 7,.int .i64 i,.float .f64 b,.string t,.slice p n c] 36 (0,0)):=by rw[hW0];exact aj w _
  have c0:W0.cell? ⟨w.1.size,0,none⟩=some (.int .i64 7):=ab hblk 0
  have c1:W0.cell? ⟨w.1.size,1,none⟩=some (.int .i64 i):=ab hblk 1
  have c2:W0.cell? ⟨w.1.size,2,none⟩=some (.float .f64 b):=ab hblk 2
  have c3:W0.cell? ⟨w.1.size,3,none⟩=some (.string t):=ab hblk 3
  have c4:W0.cell? ⟨w.1.size,4,none⟩=some (.slice p n c):=ab hblk 4
  have hvW:Hv W0:=(hv0.on hb0 hB7).on hbW (Nat.le_trans hB7 hBs)
  have HVW:=tQ (hv.on hbW)
  have HG0:=tQ (Grx.new hv hbW)
  have HB0:=tQ hb0
  have HBW:=tQ (hb0.trans (hbW.mono hBs))
  have hBW:w0.1.size<=W0.1.size:=Nat.le_trans hBs hbW.size
  have HW0:=tQ hW0
  have HC:=tQ hC
  have y4:∀o,(W0.alloc o).cell? ⟨w.1.size,4,none⟩=some (.slice p n c):=fun o=>ab ((ao W0 o (ae hblk)).trans hblk) 4
  have HBlk:=tQ hblk
  clear hv hb0 hv0 hbW hblk hvW hW0 hC
  go_enter Tryz.func42,Tryz.ntmps42
  go_wp2_with fail
  rw[<-HW0.out]
  go_region_law (first
    | (refine bf (B:=w0.1.size) (xs:=xs) (v:=.slice q0 xs.length cap0) (w:=W0.drew) (H:=W0.1.size) (by rfl) HVW.out.drew 91 (by omega) hBW (.tmp 47) (.tmp 48) (by rfl) (by rfl) (by rfl) (by rfl) (by rfl) (by rfl) ?_
       intro q3 cap3 W5 ys5 HY5 hg3
       have hgx:=Grx.of hg3.undrew HVW.out
       have HG3:=tQ (HG0.out.trans hgx)
       have d4:W5.cell? ⟨w.1.size,4,none⟩=some (.slice p n c):=ab (hgx.blk HBlk.out (by decide)) 4
       have HB5:=tQ (HB0.out.trans (HG3.out.below hBs))
       have hyl:ys5.length<=xs.length+1:=by(rw[HY5.out,List.length_append,List.length_singleton];omega)
       clear hg3 hgx)
    | (refine aZ (.tmp 49) (.tmp 51) 79 34 (by rfl) (by rfl) (by rfl) (by rfl) Tryz.func46 (by kernel_rfl) (by rfl) (HC.out W5 (.slice q3 ys5.length cap3) ys5 HB5.out HG3.out.has (by omega)) ?_
       intro e w4 hh
       obtain⟨q6,cap6,he6,hg6⟩:=hh.open
       refine⟨_,he6,?_⟩
       have HG6:=tQ (HG3.out.trans hg6)
       obtain⟨l6,hl6⟩:∃l6,l6=ys5++L:=⟨_,rfl⟩
       rw[<-hl6] at HG6 ⊢
       have HL6:=tQ hl6
       have hl6n:l6.length<=140000000000000:=by(rw[hl6,List.length_append];omega)
       clear hh hg6 he6 hl6))
  all_goals
    have hB6:w0.1.size<=w4.1.size:=Nat.le_trans hBs HG6.out.size
    have HH6:=tQ HG6.out.has
    clear d4 y4 c0 c1 c2 c3 c4
    go_wp2_with (first
      | (at_builtin;refine bo rfl HH6.out 93 (by omega) hB6 rfl rfl rfl rfl rfl rfl ?_
         intro q7 cap7 W7 zs7 HZ7 hg7
         have HG7:=tQ (HG6.out.trans (Grx.of hg7 HH6.out))
         clear hg7)
      |fail)
    go_ret
    have e:xs++91::(L++[93])=zs7:=by rw[HZ7.out,HL6.out,HY5.out];simp
    rw[e]
    exact⟨q7,cap7,rfl,HG7.out⟩
theorem av6(i:Int)(b:Nat)(t:ByteArray)(p:OA)(n c:Nat)(w0 w:World)(hv0:Hv w0)(hb0:Below w0.1.size w0 w)(v:Value)(xs:L8)(hv:Has w w0.1.size v xs)(L:Tx.Bs)(hC:∀w' v',Below w0.1.size w0 w'->Has w' w0.1.size v' xs->Calls Tryz.prog 75 #[v',.slice p n c] w' (bG w' w0.1.size (xs++L))):Calls Tryz.prog 42 #[v,.agg #[.int .i64 6,.int .i64 i,.float .f64 b,.string t,.slice p n c]] w (bG w w0.1.size (xs++L)):=by
 obtain⟨q0,cap0,rfl,-,-⟩:=hv.at
 have hBs:=hb0.size
 have hB7:=hv0.size
 obtain⟨W0,hW0⟩:∃W0,W0=w.alloc (.cells #[.int .i64 6,.int .i64 i,.float .f64 b,.string t,.slice p n c] 36):=⟨_,rfl⟩
 have hbW:Below w.1.size w W0:=by rw[hW0];exact tY
 have hblk:W0.1[w.1.size]?=some (.cells #[.int .i64 6,.int .i64 i,.float .f64 b,.string t,.slice p n c] 36 (0,0)):=by rw[hW0];exact aj w _
 have c0:W0.cell? ⟨w.1.size,0,none⟩=some (.int .i64 6):=ab hblk 0
 have c1:W0.cell? ⟨w.1.size,1,none⟩=some (.int .i64 i):=ab hblk 1
 have c2:W0.cell? ⟨w.1.size,2,none⟩=some (.float .f64 b):=ab hblk 2
 have c3:W0.cell? ⟨w.1.size,3,none⟩=some (.string t):=ab hblk 3
 have c4:W0.cell? ⟨w.1.size,4,none⟩=some (.slice p n c):=ab hblk 4
 have hvW:Hv W0:=(hv0.on hb0 hB7).on hbW (Nat.le_trans hB7 hBs)
 have HVW:=tQ (hv.on hbW)
 have HG0:=tQ (Grx.new hv hbW)
 have HB0:=tQ hb0
 have HBW:=tQ (hb0.trans (hbW.mono hBs))
 have hBW:w0.1.size<=W0.1.size:=Nat.le_trans hBs hbW.size
 have HW0:=tQ hW0
 have HC:=tQ (hC W0 _ HBW.out HVW.out)
 obtain⟨L',hL'⟩:∃L',L'=xs++L:=⟨_,rfl⟩
 rw[<-hL'] at HC ⊢
 clear hv hb0 hv0 hbW hblk hvW hW0 hL' hC
 go_enter Tryz.func42,Tryz.ntmps42
 go_wp2_with fail
 rw[<-HW0.out]
 refine HC.out.mono ?_
 intro e w4 hh
 obtain⟨q6,cap6,he6,hg6⟩:=hh.open
 subst he6
 have HG6:=tQ (HG0.out.trans hg6)
 clear hh hg6 HC
 go_wp2
 go_ret
 exact⟨q6,cap6,rfl,HG6.out⟩
theorem du:∀(x:V) (d:Nat),1<=d->chk d x=0->x.wf->qi x:=by
 refine V.ind ?_
 intro k i b t ys ih d hd1 hd hw w0 w u v xs hv0 hx hb0 hv hlen
 obtain⟨p,c,rfl,hxl,hxc,hxi⟩:=hx.open
 unfold cells5
 obtain⟨hd4,ho,h3,h4,-,h6⟩:=Sch.chk_open hd
 obtain⟨hk,hi,hb,ht,hn0,h1,h7⟩:=Sch.own_open ho
 rw[V.wf_mk] at hw
 obtain⟨-,hwi,hwb,-,hwx⟩:=hw
 have hall:∀y∈ys,qi y:=fun y hy=>ih y hy (d+1) (by omega) (h6 y hy) (hwx y hy)
 rcases Tx.word_cases hk with rfl | rfl | rfl | rfl | rfl | rfl | rfl
 ·rw[Tx.val_one]
  exact av1 i b t p _ c w0 w hv0 hb0 v xs hv (by omega)
 ·rw[Tx.val_two]
  exact av2 i b t p _ c w0 w hv0 hb0 v xs hv (by omega) hwi
 ·rw[Tx.val_three]
  exact av3 i b t p _ c w0 w hv0 hb0 v xs hv (by omega) hwb
 ·rw[Tx.val_four]
  exact av4 i b t p _ c w0 w hv0 hb0 v xs hv (by omega) h3
 ·rw[Tx.val_five]
  exact av5 i b t p _ c w0 w hv0 hb0 v xs hv (by omega) h3
 ·match ys,h7 rfl,hall,hxi,hlen with
  | [],_,_,_,hlen=>
   rw[Tx.val_none] at hlen ⊢
   exact av6 i b t p _ c w0 w hv0 hb0 v xs hv _ fun w' v' g1 g2=>ml p c _ w' v' xs g2 g1.size (by omega)
  | [y],_,hall,hxi,hlen=>
   rw[Tx.val_some] at hlen ⊢
   exact av6 i b t p _ c w0 w hv0 hb0 v xs hv _ fun w' v' g1 g2=>mj y (hall y (by simp)) p c w0 w' hv0 hxi g1 v' xs g2 hlen
 ·rw[Tx.val_list] at hlen ⊢
  refine av7 i b t p _ c w0 w hv0 hb0 v xs hv _ ?_ fun w' v' l g1 g2 g3=>cR ys (by omega) hall p c w0 w' hv0 hxi g1 v' l g2 g3
  simp only[List.length_cons,List.length_append,List.length_nil] at hlen
  omega
end
end Go.Proofs.YtllbniljgcgbeaaGreatDoor
